import PyProof.Rows.All
import Wide.All
import OpenK.AllK
import Wide.FinOn
import HandS.Iter
import HandS.Zip
import KE.GoesMore
import HandS.ForMost
import HandS.Exc
import HandS.TryMany
import HandS.ExcOwn
import HandS.WordsExc
import HandS.IsInst
import HandS.TupAny
import HandS.TupMul
import HandS.Small
import HandS.Walk
import HandS.Strs
import HandS.Flow
import HandS.DictComp
import HandS.SortInts
import HandS.TupLe
import HandS.Wide
import HandS.Gcd
import HandS.DictSub
import HandS.WideBits
import KE.KMathGC
import HandS.Dict
import KE.KDictWalk
import KE.GoesEnum
import HandS.Style
import KE.SortData
import PySem.Challenge.RW_keptlengths_k11_whole_sums_closed_in_by
set_option Elab.async false
set_option linter.all false
set_option maxRecDepth 100000
section
namespace KL
open PySem PySem.Spec PyProof.Rows L2
/-! ### enumerate over a tuple -/
set_option maxHeartbeats 1000000 in
theorem meets_enum1 {v : Value} {o : Obj} {H : Heap → Prop} (B : Begins v o H) :
    Meets (Builtin.«enumerate.__new__» ⟨[.type "enumerate", v], []⟩) (fun _ R s => H s.heap ∧
      R (.ok (.ret (.ref (s.heap.push o).objs.size))) { s with heap := (s.heap.push o).push { cls := .type "enumerate", data := .fields #[.none, .bool false, .ref s.heap.objs.size, rawInt 0, .none, .none] } }) :=
  .of_wp fun prog w A R s h => by
    obtain ⟨hp, g, d, tk, os⟩ := s; obtain ⟨h1, h⟩ := h
    have hsub := sub_enumerate
    have q1 : ∀ {A' : Around} {E : Value → Shared → Prop} {Q : Value → Shared → Prop}, Q (.ref hp.objs.size) ⟨hp.push o, g, d, tk, os⟩ → wpAny (model prog w) A' (pyIter v) Q E ⟨hp, g, d, tk, os⟩ :=
      fun q => B.iter prog w _ _ ⟨hp, g, d, tk, os⟩ _ h1 q
    wp_walk using q1
    refine wpAny_stack_any fun st => wpAny_pure ?_
    split
    · rename_i c _ _ _ _ _
      cases (c == Value.type "enumerate")
      · wp_walk using q1
        exact ⟨_, rfl, h⟩
      · wp_walk using q1
        exact ⟨_, rfl, h⟩
    · wp_walk using q1
      exact ⟨_, rfl, h⟩
section
variable {prog : Program} {w : World} {A : Around} {E : Value → Shared → Prop} {s : Shared}
theorem enum1 {v : Value} {o : Obj} {H : Heap → Prop} {Q : Value → Shared → Prop} (B : Begins v o H) (h1 : H s.heap)
    (h : ∀ h', IsEnum h' (s.heap.objs.size + 1) s.heap.objs.size 0 .none → h'.get? s.heap.objs.size = some o → h'.objs.size = s.heap.objs.size + 2 →
      (∀ b o, s.heap.get? b = some o → h'.get? b = some o) → Q (.ref (s.heap.objs.size + 1)) { s with heap := h' }) :
    wpAny (model prog w) A (call (.type "enumerate") [v]) Q E s := by
  refine callType_new F.called_enumerate (by decide) (F.typeCall_enumerate_1 _) (F.newCall_enumerate_1 _) (fun obj => F.args_object_init_2 obj _) F.entry_enumerate_new
    (meets_enum1 B) ⟨h1, ?_⟩
  have hz : (s.heap.push o).objs.size = s.heap.objs.size + 1 := Heap.size_push ..
  show _ ∧ _
  rw [hz]
  have he : IsEnum ((s.heap.push o).push { cls := .type "enumerate", data := .fields #[.none, .bool false, .ref s.heap.objs.size, rawInt 0, .none, .none] }) (s.heap.objs.size + 1) s.heap.objs.size 0 .none := by
    have := Heap.get?_push_size (s.heap.push o) (o := { cls := .type "enumerate", data := .fields #[.none, .bool false, .ref s.heap.objs.size, rawInt 0, .none, .none] }) rfl
    rw [hz] at this; exact this
  refine ⟨⟨_, he, rfl⟩, h _ he (Heap.get?_push_of_some _ (Heap.get?_push_size _ B.free)) (by rw [Heap.size_push, hz]) fun b o x => Heap.get?_push_of_some _ (Heap.get?_push_of_some _ x)⟩
end
/-- the tuple at a as it stands at each turn, each item in a new pair -/
def IteT (K : PySem.W.Frag) (a : Addr) : It :=
  ⟨fun i H => ∃ (xs : List V) (x : V), SqT K H a xs ∧ xs[i]? = some x, fun i H v H' => ∃ T x, v = .ref T ∧ H T = none ∧ H' = upd H T (.tup [.int (i : Nat), x]) ∧ ∀ xs, SqT K H a xs → xs[i]? = some x, fun i H => ∃ xs : List V, SqT K H a xs ∧ xs.length ≤ i⟩
theorem apart {h : Heap} {a it : Addr} {items : Array Value} {i : Nat} (p : h.IsTuple a items) (q : h.IsTupleIter it a i) : a ≠ it := fun e => by
  subst e
  obtain ⟨o, e1, c1, _⟩ := p
  obtain ⟨o2, e2, c2, _⟩ := q
  rw [e1] at e2
  cases e2
  rw [c1] at c2
  exact absurd c2 (by decide)
theorem apart2 {h : Heap} {a e it : Addr} {items : Array Value} {i : Int} {old : Value} (p : h.IsTuple a items) (q : IsEnum h e it i old) : e ≠ a := fun z => by
  subst z
  obtain ⟨o, e1, c1, _⟩ := p
  have q' : h.get? e = some _ := q
  rw [e1] at q'
  cases q'
  exact absurd (show Value.type "enumerate" = Value.type "tuple" from c1) (by decide)
theorem turn_enumT {P : Program} {w : World} {K : PySem.W.Frag} {elts : List Expr} {kk : Nat} {tpos : Pos} (a e it : Addr) :
    Turn P w K (.Tuple elts kk tpos) (IteT K a) [e, it] e (fun i h => (∃ old, IsEnum h e it ((i : Nat) : Int) old) ∧ h.IsTupleIter it a i ∧ e ≠ it) where
  mem := by simp
  obj := fun i h st b hb => by
    obtain ⟨⟨old, he⟩, ⟨o, ho, hc, hd⟩, _⟩ := st
    have e' : b = e ∨ b = it := by simpa using hb
    rcases e' with z | z
    · rw [z]; exact ⟨_, he, fun v q => nomatch q⟩
    · rw [z]; exact ⟨o, ho, fun v q => by rw [hd] at q; cases q⟩
  keep := fun i h h' st k => let ⟨⟨old, he⟩, hi, hne⟩ := st; ⟨⟨old, k e (by simp) _ he⟩, hi.at fun o q => k it (by simp) o q, hne⟩
  item := by
    intro X hP hw hK hc i pins s σ H E I hf st hg
    subst hP hw hK
    obtain ⟨⟨old, he⟩, hit, hne⟩ := st
    obtain ⟨xs, x, hq, hx⟩ := hg
    obtain ⟨its, rv, p, hz⟩ := I.tuple hq
    obtain ⟨u, hu, ru⟩ := rv.get hx
    have p' : s.heap.IsTuple a its.toArray := p
    have hel : e < s.heap.objs.size := Heap.lt_size he
    have hil : it < s.heap.objs.size := by obtain ⟨_, q, _⟩ := hit; exact Heap.lt_size q
    have nai := apart p' hit
    have nae := apart2 p' he
    have D := Draws.tuple (prog := X.prog) (w := X.w) (A := X.A.in1) (I.ok.hd hc) it a nai its.toArray
    have hlt : i < its.toArray.size := by
      have := (List.getElem?_eq_some_iff.mp hu).1
      simpa using this
    refine wpAny_pyNext_enum_itemD D he ⟨hit, p'⟩ hlt hne (by simp only [List.mem_cons, List.not_mem_nil, or_false, not_or]; exact ⟨hne, nae⟩) fun x' h' tk hx' ho hst' hT hsz hk => ?_
    have ex : x' = u := by
      have hu' : its.toArray[i]? = some u := by simpa using hu
      rw [hu'] at hx'
      exact (Option.some.inj hx').symm
    subst ex
    refine ⟨_, rfl, wpAny_letOwnedTupleGo_enum (s := { s with heap := h', toks := tk + 1 }) ho fun h'' he' sb => ?_⟩
    have hT2 : h''.get? s.heap.objs.size = some { cls := .type "tuple", data := .seq #[.int i tk, x'] } := (sb.2 _ (Nat.ne_of_gt hel)).trans hT
    have new : ObjOk X.prog X.w (upd H s.heap.objs.size (.tup [.int (i : Nat), x])) h'' s.heap.objs.size (.tup [.int (i : Nat), x]) :=
      ⟨by show 2 ≤ sizeLine; decide, [.int i tk, x'], .cons ⟨_, rfl⟩ (.cons ru .nil), ⟨_, hT2, rfl, _, rfl⟩⟩
    have I1 : Inv X pins σ (upd H s.heap.objs.size (.tup [.int (i : Nat), x])) { s with heap := h'', toks := tk + 1 } :=
      I.turnedNew (ch := [e, it]) (fun b ob hb q => (sb.2 b (fun z => hb (by simp [z]))).trans (hk b ob (fun z => hb (by simp [z])) (fun z => hb (by simp [z])) q)) hf (Nat.le_refl _) new
    refine ⟨.ref s.heap.objs.size, _, I1, rfl, ⟨_, x, rfl, I.hok.fresh (Nat.le_refl _), rfl, fun ys hy => by rw [I.tuple_inj hy hq]; exact hx⟩, ⟨⟨x', ?_⟩, hst'.1.at fun o q => (sb.2 it (Ne.symm hne)).trans q, hne⟩, fun b hb => ?_⟩
    · have e1 : ((i + 1 : Nat) : Int) = (i : Int) + 1 := by omega
      rw [e1]; exact he'
    · have hb' : b < s.heap.objs.size := by
        have e' : b = e ∨ b = it := by simpa using hb
        rcases e' with z | z
        · rw [z]; exact hel
        · rw [z]; exact hil
      rw [upd_ne (Nat.ne_of_lt hb')]
      exact (hf b hb).1
  done := by
    intro X hP hw hK hc i pins s σ H E I hf st hg
    subst hP hw hK
    obtain ⟨⟨old, he⟩, hit, hne⟩ := st
    obtain ⟨xs, hq, hx⟩ := hg
    obtain ⟨its, rv, p, hz⟩ := I.tuple hq
    obtain ⟨f0, f1, f2, f3, f4, f5⟩ := hf it (by simp)
    have hl := rv.length
    have hT : s.TypeIs (.ref e) "enumerate" := ⟨_, he, rfl⟩
    unfold pyNext
    refine wpAny_bind (wpAny_attempt (wpAny_callSpecial?_slot (name := Str.ofString "__next__") hT F.slot_enumerate_next
      (wpAny_call_entry F.slot_enumerate_next hT F.entry_enumerate_next ?_ (F.args_enumerate_next_1 _))))
    show wpAny _ _ (field (.ref e) 2 >>= _) _ _ _
    refine wpAny_bind (wpAny_field he rfl (x := .ref it) rfl ?_)
    refine wpAny_bind (wpAny_nextOf_tuple_end (I.ok.hd hc) hit (show s.heap.IsTuple a its.toArray from p) (by simp; omega) fun h' x eb hx' => ?_)
    obtain ⟨o, ho, hcl⟩ := hx'
    refine wpAny_bind (wpAny_isInstance (T := "StopIteration") (b := true) ⟨o, ho, hcl⟩ isSubtype_stop ?_)
    exact wpAny_pure ⟨rfl, I.turned (t' := s.toks) (fun b o hb q => eb b o hb q) f0 f1 f3 f4 f5⟩
  self := fun A i s Q E st h => let ⟨⟨_, he⟩, _⟩ := st; wpAny_pyIter_enum he h
def iEnumT (K : PySem.W.Frag) (ta : TA) : TI := fun σ H R => ta σ H fun vs H1 => ∃ a xs, vs = [.ref a] ∧ SqT K H1 a xs ∧ R (IteT K a) H1
theorem pi_enumT {X : Cx} {e : Expr} {ta : TA} {p pos tpos : Pos} {elts : List Expr} {kk : Nat} (hg : Gl X "enumerate") (hm : X.mg "enumerate" = none) (ha : PA X [e] ta) (hs : starEach [e] X.env = [(false, eval e X.env)] := by rfl) :
    PI X (.Tuple elts kk tpos) (.Call (.Name "enumerate" p) [e] [] pos) (iEnumT X.K ta) := by
  refine ⟨fun pins s σ H R I h => ?_⟩
  refine Call_ (ld_blt I hg hm boot_enumerate (PyProof.Rows.callWith_type1 (thn (ha.run pos pins s σ H _ I h) fun us s1 ⟨vs, H1, I1, r1, q1⟩ => ?_) hs rfl))
  obtain ⟨a, xs, ex, hq, q⟩ := q1
  subst ex
  cases r1 with
  | cons r rr =>
    cases rr
    cases r
    obtain ⟨its, rv, p', hz⟩ := I1.tuple hq
    refine enum1 (begins_tuple a its.toArray) (show s1.heap.IsTuple a its.toArray from p') fun h' he hit hsz hk => wpAny_pyIter_enum he ?_
    have I2 : Inv X pins σ H1 { s1 with heap := h' } := I1.kept (t' := s1.toks) hk
    refine ⟨s1.heap.objs.size + 1, [s1.heap.objs.size + 1, s1.heap.objs.size], _, _, H1, rfl, I2, turn_enumT a (s1.heap.objs.size + 1) s1.heap.objs.size, ⟨⟨.none, he⟩, ⟨_, hit, rfl, rfl⟩, Nat.succ_ne_self _⟩, fun b hb => ?_, q⟩
    have e' : b = s1.heap.objs.size + 1 ∨ b = s1.heap.objs.size := by simpa using hb
    have hle : s1.heap.objs.size ≤ b := by
      rcases e' with z | z
      · rw [z]; exact Nat.le_add_right _ _
      · rw [z]; exact Nat.le_refl _
    exact I1.fpOk hle (I1.hok.fresh hle)
end KL
end
section
namespace KL
/-! ### graphs -/
/-- what is reached from the starts by the ways -/
inductive RS (ways : List (List Nat)) (starts : List Nat) : Nat → Prop
  | base {s : Nat} : s ∈ starts → RS ways starts s
  | step {i t : Nat} : RS ways starts i → t ∈ (ways[i]?).getD [] → RS ways starts t
def cnt : List Bool → Nat
  | [] => 0
  | b :: r => (if b = true then 0 else 1) + cnt r
theorem cnt_le : ∀ fl : List Bool, cnt fl ≤ fl.length
  | [] => Nat.le_refl _
  | b :: r => by
    have := cnt_le r
    rw [cnt, List.length_cons]
    split <;> omega
theorem cnt_set : ∀ {fl : List Bool} {t : Nat}, fl[t]? = some false → cnt (fl.set t true) + 1 = cnt fl
  | [], t, h => by simp at h
  | b :: r, 0, h => by
    simp at h
    subst h
    simp [cnt]
    omega
  | b :: r, t + 1, h => by
    have h' : r[t]? = some false := by simpa using h
    have := cnt_set h'
    rw [List.set_cons_succ, cnt, cnt]
    omega
theorem set_get {fl : List Bool} {t i : Nat} (h : fl[i]? = some true) : (fl.set t true)[i]? = some true := by
  have hi := (List.getElem?_eq_some_iff.mp h).1
  rw [List.getElem?_set]
  split
  · next e =>
    subst e
    rw [if_pos hi]
  · exact h
theorem set_new {fl : List Bool} {t : Nat} (h : t < fl.length) : (fl.set t true)[t]? = some true := by
  rw [List.getElem?_set_self h]
theorem set_back {fl : List Bool} {t i : Nat} (h : (fl.set t true)[i]? = some true) : i = t ∨ fl[i]? = some true := by
  by_cases e : t = i
  · exact .inl e.symm
  · rw [List.getElem?_set_ne e] at h
    exact .inr h
structure SI (ways : List (List Nat)) (starts : List Nat) (fl : List Bool) (wt : List Nat) : Prop where
  len : fl.length = ways.length
  st : ∀ s ∈ starts, fl[s]? = some true
  wtf : ∀ s ∈ wt, fl[s]? = some true
  sound : ∀ i : Nat, fl[i]? = some true → RS ways starts i
  clo : ∀ i : Nat, fl[i]? = some true → i ∈ wt ∨ ∀ t ∈ (ways[i]?).getD [], fl[t]? = some true
structure SJ (ways : List (List Nat)) (starts : List Nat) (a j : Nat) (fl : List Bool) (wt : List Nat) : Prop where
  len : fl.length = ways.length
  st : ∀ s ∈ starts, fl[s]? = some true
  wtf : ∀ s ∈ wt, fl[s]? = some true
  sound : ∀ i : Nat, fl[i]? = some true → RS ways starts i
  rat : fl[a]? = some true
  clo : ∀ i : Nat, fl[i]? = some true → i ∈ wt ∨ i = a ∨ ∀ t ∈ (ways[i]?).getD [], fl[t]? = some true
  dn : ∀ t ∈ ((ways[a]?).getD []).take j, fl[t]? = some true
section
variable {ways : List (List Nat)} {starts : List Nat} {fl : List Bool} {wt ys : List Nat} {a j t : Nat}
theorem SI.pop (h : SI ways starts fl (ys ++ [a])) : SJ ways starts a 0 fl ys where
  len := h.len
  st := h.st
  wtf := fun s m => h.wtf s (List.mem_append_left _ m)
  sound := h.sound
  rat := h.wtf a (by simp)
  clo := fun i e => by
    rcases h.clo i e with m | q
    · rcases List.mem_append.mp m with m | m
      · exact .inl m
      · exact .inr (.inl (by simpa using m))
    · exact .inr (.inr q)
  dn := fun t m => by simp at m
theorem take_succ' {l : List Nat} (h : l[j]? = some t) {P : Nat → Prop} (hp : ∀ x ∈ l.take j, P x) (ht : P t) : ∀ x ∈ l.take (j + 1), P x := fun x m => by
  rw [List.take_add_one, h] at m
  rcases List.mem_append.mp m with m | m
  · exact hp x m
  · have e : x = t := by simpa using m
    rw [e]; exact ht
theorem SJ.skip (h : SJ ways starts a j fl wt) (ht : ((ways[a]?).getD [])[j]? = some t) (hf : fl[t]? = some true) : SJ ways starts a (j + 1) fl wt where
  len := h.len
  st := h.st
  wtf := h.wtf
  sound := h.sound
  rat := h.rat
  clo := h.clo
  dn := take_succ' ht h.dn hf
theorem SJ.set (h : SJ ways starts a j fl wt) (ht : ((ways[a]?).getD [])[j]? = some t) (hf : fl[t]? = some false) : SJ ways starts a (j + 1) (fl.set t true) (wt ++ [t]) where
  len := by rw [List.length_set]; exact h.len
  st := fun s m => set_get (h.st s m)
  wtf := fun s m => by
    rcases List.mem_append.mp m with m | m
    · exact set_get (h.wtf s m)
    · have e : s = t := by simpa using m
      rw [e]; exact set_new (List.getElem?_eq_some_iff.mp hf).1
  sound := fun i e => by
    rcases set_back e with rfl | e
    · exact .step (h.sound a h.rat) (List.mem_of_getElem? ht)
    · exact h.sound i e
  rat := set_get h.rat
  clo := fun i e => by
    rcases set_back e with rfl | e
    · exact .inl (by simp)
    · rcases h.clo i e with m | q | q
      · exact .inl (List.mem_append_left _ m)
      · exact .inr (.inl q)
      · exact .inr (.inr fun t m => set_get (q t m))
  dn := take_succ' ht (fun x m => set_get (h.dn x m)) (set_new (List.getElem?_eq_some_iff.mp hf).1)
theorem SJ.done (h : SJ ways starts a ((ways[a]?).getD []).length fl wt) : SI ways starts fl wt where
  len := h.len
  st := h.st
  wtf := h.wtf
  sound := h.sound
  clo := fun i e => by
    rcases h.clo i e with m | rfl | q
    · exact .inl m
    · exact .inr fun t m => h.dn t (by rw [List.take_length]; exact m)
    · exact .inr q
theorem SI.fin (h : SI ways starts fl []) (i : Nat) : fl[i]? = some true ↔ RS ways starts i := by
  refine ⟨h.sound i, fun r => ?_⟩
  induction r with
  | base m => exact h.st _ m
  | step r m ih =>
    rcases h.clo _ ih with q | q
    · cases q
    · exact q _ m
/-- the starts flagged -/
structure SK (n : Nat) (done : List Nat) (fl : List Bool) : Prop where
  len : fl.length = n
  iff : ∀ i : Nat, fl[i]? = some true ↔ i ∈ done
theorem SK.zero (n : Nat) : SK n [] (List.replicate n false) where
  len := List.length_replicate
  iff := fun i => by
    rw [List.getElem?_replicate]
    split <;> simp
theorem SK.add {n : Nat} {dn : List Nat} (h : SK n dn fl) (ht : t < n) : SK n (dn ++ [t]) (fl.set t true) where
  len := by rw [List.length_set]; exact h.len
  iff := fun i => by
    constructor
    · intro e
      rcases set_back e with rfl | e
      · simp
      · exact List.mem_append_left _ ((h.iff i).mp e)
    · intro m
      rcases List.mem_append.mp m with m | m
      · exact set_get ((h.iff i).mpr m)
      · have e : i = t := by simpa using m
        rw [e]; exact set_new (by rw [h.len]; exact ht)
theorem SK.si (h : SK ways.length starts fl) : SI ways starts fl starts where
  len := h.len
  st := fun s m => (h.iff s).mpr m
  wtf := fun s m => (h.iff s).mpr m
  sound := fun i e => .base ((h.iff i).mp e)
  clo := fun i e => .inl ((h.iff i).mp e)
theorem RS.lt (wf : ∀ (i : Nat) (ws : List Nat), ways[i]? = some ws → ∀ t ∈ ws, t < ways.length) (hs : ∀ s ∈ starts, s < ways.length) {i : Nat} (r : RS ways starts i) : i < ways.length := by
  induction r with
  | base m => exact hs _ m
  | step r m ih =>
    have e := List.getElem?_eq_getElem ih
    rw [e] at m
    exact wf _ _ e _ m
end
end KL
end
section
namespace KL
open PySem PySem.Spec PyProof.Rows L2

/-! ### heaps: all that stands elsewhere than at Z stands still -/
abbrev Zone := Addr → Prop
def SB (Z : Zone) (H H' : Hp) : Prop := ∀ b o, ¬ Z b → H b = some o → H' b = some o
/-- what is tracked -/
def Trk (H : Hp) : Zone := fun a => H a ≠ none
theorem SB.rfl' {Z : Zone} {H : Hp} : SB Z H H := fun _ _ _ h => h
theorem SB.trans {Z : Zone} {H H1 H2 : Hp} (a : SB Z H H1) (b : SB Z H1 H2) : SB Z H H2 := fun c o n h => b c o n (a c o n h)
theorem SB.of {Z : Zone} {H H' : Hp} (a : Same H H') : SB Z H H' := fun b o _ h => a b o h
theorem SB.mono {Z Z' : Zone} {H H' : Hp} (a : SB Z H H') (h : ∀ b, Z b → Z' b) : SB Z' H H' := fun b o n q => a b o (fun z => n (h b z)) q
theorem same_new {H : Hp} {p : Addr} (h : H p = none) (o : HO) : Same H (upd H p o) := fun b u q => by rw [upd_ne (ne_of_none q h)]; exact q
theorem SB.new {Z : Zone} {H : Hp} {p : Addr} (h : H p = none) (o : HO) : SB Z H (upd H p o) := .of (same_new h o)
theorem SB.self {Z : Zone} {H : Hp} {W : Addr} (z : Z W) (o : HO) : SB Z H (upd H W o) := fun b u n q => by
  rw [upd_ne (fun e : b = W => n (by rw [e]; exact z))]; exact q
abbrev At1 (W : Addr) : Zone := fun a => a = W
theorem SB.selfW {H : Hp} {W : Addr} (o : HO) : SB (At1 W) H (upd H W o) := .self (Z := At1 W) rfl o
/-- what was new in between may be written -/
theorem SB.upd_new {Z : Zone} {p : Addr} {H H1 : Hp} (a : SB Z H H1) (h : H p = none) (o : HO) : SB Z H (upd H1 p o) := fun b u n q => by
  rw [upd_ne (ne_of_none q h)]; exact a b u n q
theorem Same.upd_new {p : Addr} {H H1 : Hp} (a : Same H H1) (h : H p = none) (o : HO) : Same H (upd H1 p o) := fun b u q => by
  rw [upd_ne (ne_of_none q h)]; exact a b u q
theorem Trk.same {H H' : Hp} (s : Same H H') {a : Addr} (h : Trk H a) : Trk H' a := fun e => by
  cases q : H a with
  | none => exact h q
  | some o => rw [s a o q] at e; cases e
theorem Trk.of {H : Hp} {a : Addr} {o : HO} (h : H a = some o) : Trk H a := fun e => by rw [e] at h; cases h
theorem Trk.not {H : Hp} {a : Addr} (h : H a = none) : ¬ Trk H a := fun e => e h

/-! ### the things of the law -/
inductive Th where
  | non | bl (b : Bool) | int (i : Int) | str (x : Str) | lst (xs : List Th) | tup (xs : List Th) | dic (xs : List Th)
mutual
/-- in the heap H the value v is the thing; nothing of it stands in Z -/
def At (Z : Zone) (H : Hp) : Th → V → Prop
  | .non, v => v = .non
  | .bl b, v => v = .bl b
  | .int i, v => v = .int i
  | .str x, v => v = .str x
  | .lst xs, v => ∃ a vs, v = .ref a ∧ ¬ Z a ∧ H a = some (.lst vs) ∧ AtAll Z H xs vs
  | .tup xs, v => ∃ a vs, v = .ref a ∧ ¬ Z a ∧ H a = some (.tup vs) ∧ AtAll Z H xs vs
  | .dic xs, v => ∃ a l vs, v = .ref a ∧ ¬ Z a ∧ ¬ Z l ∧ H a = some (.dK [(Sum.inr "a", .ref l), (Sum.inl 1, .non)]) ∧ H l = some (.lst vs) ∧ AtAll Z H xs vs
def AtAll (Z : Zone) (H : Hp) : List Th → List V → Prop
  | [], vs => vs = []
  | x :: xs, vs => ∃ u us, vs = u :: us ∧ At Z H x u ∧ AtAll Z H xs us
end
mutual
theorem At.step {Z Z' : Zone} {H H' : Hp} (s : SB Z H H') (z : ∀ a, ¬ Z a → Trk H a → ¬ Z' a) : ∀ {d : Th} {v : V}, At Z H d v → At Z' H' d v
  | .non, _, h => h
  | .bl _, _, h => h
  | .int _, _, h => h
  | .str _, _, h => h
  | .lst _, _, ⟨a, vs, e, n, h, t⟩ => ⟨a, vs, e, z a n (.of h), s _ _ n h, AtAll.step s z t⟩
  | .tup _, _, ⟨a, vs, e, n, h, t⟩ => ⟨a, vs, e, z a n (.of h), s _ _ n h, AtAll.step s z t⟩
  | .dic _, _, ⟨a, l, vs, e, n, m, h, g, t⟩ => ⟨a, l, vs, e, z a n (.of h), z l m (.of g), s _ _ n h, s _ _ m g, AtAll.step s z t⟩
theorem AtAll.step {Z Z' : Zone} {H H' : Hp} (s : SB Z H H') (z : ∀ a, ¬ Z a → Trk H a → ¬ Z' a) : ∀ {ds : List Th} {vs : List V}, AtAll Z H ds vs → AtAll Z' H' ds vs
  | [], _, h => h
  | _ :: _, _, ⟨u, us, e, h, t⟩ => ⟨u, us, e, At.step s z h, AtAll.step s z t⟩
end
theorem At.sb {Z : Zone} {H H' : Hp} (s : SB Z H H') {d : Th} {v : V} (h : At Z H d v) : At Z H' d v := h.step s fun _ n _ => n
theorem AtAll.sb {Z : Zone} {H H' : Hp} (s : SB Z H H') {d : List Th} {v : List V} (h : AtAll Z H d v) : AtAll Z H' d v := h.step s fun _ n _ => n
theorem At.same {Z : Zone} {H H' : Hp} (s : Same H H') {d : Th} {v : V} (h : At Z H d v) : At Z H' d v := h.sb (.of s)
theorem AtAll.same {Z : Zone} {H H' : Hp} (s : Same H H') {d : List Th} {v : List V} (h : AtAll Z H d v) : AtAll Z H' d v := h.sb (.of s)
theorem At.less {Z Z' : Zone} {H : Hp} (z : ∀ a, Z' a → Z a) {d : Th} {v : V} (h : At Z H d v) : At Z' H d v := h.step .rfl' fun a n _ m => n (z a m)
theorem AtAll.less {Z Z' : Zone} {H : Hp} (z : ∀ a, Z' a → Z a) {d : List Th} {v : List V} (h : AtAll Z H d v) : AtAll Z' H d v := h.step .rfl' fun a n _ m => n (z a m)
theorem AtAll.len {Z : Zone} {H : Hp} : ∀ {ds : List Th} {vs : List V}, AtAll Z H ds vs → vs.length = ds.length
  | [], _, h => by rw [show _ = [] from h]; rfl
  | _ :: _, _, ⟨u, us, e, _, t⟩ => by rw [e, List.length_cons, List.length_cons, t.len]
theorem AtAll.get {Z : Zone} {H : Hp} : ∀ {ds : List Th} {vs : List V} {i : Nat} {v : V}, AtAll Z H ds vs → vs[i]? = some v → ∃ d, ds[i]? = some d ∧ At Z H d v
  | [], _, _, _, h, e => by rw [show _ = [] from h] at e; simp at e
  | d :: _, _, 0, v, ⟨u, us, e, h, _⟩, q => by rw [e] at q; simp at q; subst q; exact ⟨d, rfl, h⟩
  | _ :: ds, _, i + 1, v, ⟨u, us, e, _, t⟩, q => by
    rw [e] at q
    obtain ⟨d, e1, h1⟩ := AtAll.get (i := i) t (by simpa using q)
    exact ⟨d, by simpa using e1, h1⟩
theorem AtAll.at {Z : Zone} {H : Hp} {ds : List Th} {vs : List V} {i : Nat} {d : Th} (h : AtAll Z H ds vs) (e : ds[i]? = some d) : ∃ v, vs[i]? = some v ∧ At Z H d v := by
  have hi : i < vs.length := by rw [h.len]; exact (List.getElem?_eq_some_iff.mp e).1
  obtain ⟨d', e1, h1⟩ := h.get (List.getElem?_eq_getElem hi)
  rw [e] at e1; cases e1
  exact ⟨_, List.getElem?_eq_getElem hi, h1⟩
theorem AtAll.nil {Z : Zone} {H : Hp} : AtAll Z H [] [] := rfl
theorem AtAll.cons {Z : Zone} {H : Hp} {d : Th} {ds : List Th} {v : V} {vs : List V} (h : At Z H d v) (t : AtAll Z H ds vs) : AtAll Z H (d :: ds) (v :: vs) := ⟨v, vs, rfl, h, t⟩
theorem AtAll.append {Z : Zone} {H : Hp} : ∀ {ds es : List Th} {vs us : List V}, AtAll Z H ds vs → AtAll Z H es us → AtAll Z H (ds ++ es) (vs ++ us)
  | [], _, _, _, h, t => by rw [show _ = [] from h]; exact t
  | _ :: _, _, _, _, ⟨u, us, e, h, t⟩, g => by subst e; exact ⟨u, _, rfl, h, t.append g⟩
theorem AtAll.take {Z : Zone} {H : Hp} : ∀ {ds : List Th} {vs : List V} (n : Nat), AtAll Z H ds vs → AtAll Z H (ds.take n) (vs.take n)
  | _, _, 0, _ => by rw [List.take_zero, List.take_zero]; exact .nil
  | [], _, n + 1, h => by rw [show _ = [] from h]; exact .nil
  | _ :: _, _, n + 1, ⟨u, us, e, h, t⟩ => by subst e; exact .cons h (t.take n)
theorem AtAll.drop {Z : Zone} {H : Hp} : ∀ {ds : List Th} {vs : List V} (n : Nat), AtAll Z H ds vs → AtAll Z H (ds.drop n) (vs.drop n)
  | _, _, 0, h => h
  | [], _, n + 1, h => by rw [show _ = [] from h]; exact .nil
  | _ :: _, _, n + 1, ⟨u, us, e, h, t⟩ => by subst e; exact t.drop n

/-! ### types -/
def ty : Th → String
  | .non => "NoneType" | .bl _ => "bool" | .int _ => "int" | .str _ => "str" | .lst _ => "list" | .tup _ => "tuple" | .dic _ => "dict"
def isI : Th → Bool
  | .int _ => true | .bl _ => true | _ => false
def isB : Th → Bool
  | .bl _ => true | _ => false
def isS : Th → Bool
  | .str _ => true | _ => false
def isT : Th → Bool
  | .tup _ => true | _ => false
theorem kitI : ∀ d : Th, kitB (ty d) "int" = some (isI d)
  | .non => (by decide +kernel : kitB "NoneType" "int" = some false)
  | .bl _ => (by decide +kernel : kitB "bool" "int" = some true)
  | .int _ => (by decide +kernel : kitB "int" "int" = some true)
  | .str _ => (by decide +kernel : kitB "str" "int" = some false)
  | .lst _ => (by decide +kernel : kitB "list" "int" = some false)
  | .tup _ => (by decide +kernel : kitB "tuple" "int" = some false)
  | .dic _ => (by decide +kernel : kitB "dict" "int" = some false)
theorem kitBo : ∀ d : Th, kitB (ty d) "bool" = some (isB d)
  | .non => (by decide +kernel : kitB "NoneType" "bool" = some false)
  | .bl _ => (by decide +kernel : kitB "bool" "bool" = some true)
  | .int _ => (by decide +kernel : kitB "int" "bool" = some false)
  | .str _ => (by decide +kernel : kitB "str" "bool" = some false)
  | .lst _ => (by decide +kernel : kitB "list" "bool" = some false)
  | .tup _ => (by decide +kernel : kitB "tuple" "bool" = some false)
  | .dic _ => (by decide +kernel : kitB "dict" "bool" = some false)
theorem kitS : ∀ d : Th, kitB (ty d) "str" = some (isS d)
  | .non => (by decide +kernel : kitB "NoneType" "str" = some false)
  | .bl _ => (by decide +kernel : kitB "bool" "str" = some false)
  | .int _ => (by decide +kernel : kitB "int" "str" = some false)
  | .str _ => (by decide +kernel : kitB "str" "str" = some true)
  | .lst _ => (by decide +kernel : kitB "list" "str" = some false)
  | .tup _ => (by decide +kernel : kitB "tuple" "str" = some false)
  | .dic _ => (by decide +kernel : kitB "dict" "str" = some false)
theorem kitT : ∀ d : Th, kitB (ty d) "tuple" = some (isT d)
  | .non => (by decide +kernel : kitB "NoneType" "tuple" = some false)
  | .bl _ => (by decide +kernel : kitB "bool" "tuple" = some false)
  | .int _ => (by decide +kernel : kitB "int" "tuple" = some false)
  | .str _ => (by decide +kernel : kitB "str" "tuple" = some false)
  | .lst _ => (by decide +kernel : kitB "list" "tuple" = some false)
  | .tup _ => (by decide +kernel : kitB "tuple" "tuple" = some true)
  | .dic _ => (by decide +kernel : kitB "dict" "tuple" = some false)
theorem At.tyx {K : PySem.W.Frag} {Z : Zone} {H : Hp} {d : Th} {v : V} (h : At Z H d v) : TyX K H v (.type (ty d)) := by
  cases d with
  | non => cases h; exact .base .non
  | bl b => cases h; exact .base (.bl b)
  | int i => cases h; exact .base (.int i)
  | str x => cases h; exact .base (.str x)
  | lst xs => obtain ⟨a, vs, rfl, _, e, _⟩ := h; exact .base (.lst e)
  | tup xs => obtain ⟨a, vs, rfl, _, e, _⟩ := h; exact .base (.tup e)
  | dic xs => obtain ⟨a, l, vs, rfl, _, _, e, _⟩ := h; exact .base (.dK e)
theorem rd_isi {K : PySem.W.Frag} {Z : Zone} {H : Hp} {d : Th} {v : V} {T : String} {b : Bool} {Q : VK} (h : At Z H d v) (e : kitB (ty d) T = some b) (q : Q (.bl b) H) : rIsi K [v, .ty T] H Q :=
  ⟨v, .ty T, _, _, b, rfl, .ty T, h.tyx, kit_ty e, q⟩

theorem iteB {c : Bool} {A B : Prop} (h1 : c = true → A) (h0 : c = false → B) : if c = true then A else B := by
  cases c with
  | true => exact iteT (h1 rfl)
  | false => exact iteF (h0 rfl)
/-- if tc: t, then the rest r; the test's answer b0 is known ahead -/
theorem rd_ifs {tc : TT} {t r : TS} {D : Ends} {σ : L2.St} {H1 : Hp} (b0 : Bool) (h : ∀ Q : Bool → Hp → Prop, (∀ H2, Same H1 H2 → Q b0 H2) → tc σ H1 Q)
    (q1 : ∀ H2, Same H1 H2 → b0 = true → t { D with nx := r D } σ H2) (q0 : ∀ H2, Same H1 H2 → b0 = false → r D σ H2) : tSeq (tIfS tc t tNext) r D σ H1 :=
  h (fun b H2 => if b = true then t { D with nx := r D } σ H2 else tNext { D with nx := r D } σ H2) fun H2 s2 => iteB (q1 H2 s2) (q0 H2 s2)
/-- a first statement s, then the rest r: behind s the slots and the heap are as I tells -/
theorem rd_seq {a r : TS} {D : Ends} {σ : L2.St} {H : Hp} (I : L2.St → Hp → Prop) (h : ∀ N : L2.St → Hp → Prop, (∀ σ' H', I σ' H' → N σ' H') → a { D with nx := N } σ H) (q : ∀ σ' H', I σ' H' → r D σ' H') : tSeq a r D σ H := h (r D) q
theorem rd_ifz {tc : TT} {t r : TS} {D : Ends} {σ : L2.St} {H : Hp} (I : L2.St → Hp → Prop) (h : ∀ N : L2.St → Hp → Prop, (∀ σ' H', I σ' H' → N σ' H') → tIfS tc t tNext { D with nx := N } σ H) (q : ∀ σ' H', I σ' H' → r D σ' H') : tSeq (tIfS tc t tNext) r D σ H := h (r D) q
theorem rd_ifx {tc : TT} {t r : TS} {D : Ends} {σ : L2.St} {H : Hp} (I : Hp → Prop) (h : ∀ N : L2.St → Hp → Prop, (∀ H', I H' → N σ H') → tIfS tc t tNext { D with nx := N } σ H) (q : ∀ H', I H' → r D σ H') : tSeq (tIfS tc t tNext) r D σ H := h (r D) q
/-- a list of values told of a tuple's things -/
theorem lc_inV {K : PySem.W.Frag} {Z : Zone} {H : Hp} {a : Addr} {vs : List V} {ds : List Th} {g : Th → V} {i : Nat} {own : List Nat} {te : TE} {σ : L2.St} {Q : Addr → Hp → Prop}
    (hT : H a = some (.tup vs)) (hA : AtAll Z H ds vs) (hz : ds.length ≤ 1000000) (hw : ∀ x, wipe ((wipe σ own).set i (some x)) own = wipe σ own)
    (hs : ∀ x d H2, d ∈ ds → Same H H2 → At Z H2 d x → ∀ R : VK, (∀ H3, Same H2 H3 → R (g d) H3) → te ((wipe σ own).set i (some x)) H2 R)
    (hd : ∀ D H', Same H H' → H D = none → H' D = some (.lst (ds.map g)) → Q D H') :
    ∀ D, H D = none → ∃ W : Nat → Nat → Hp → Prop, (∃ m, W 0 m (upd H D (.lst []))) ∧ ∀ i' m H, W i' m H →
      ((Itt K a).stop i' H ∧ Q D H) ∨ ((Itt K a).go i' H ∧ ∃ Nx : Hp → Prop, (∀ H', Nx H' → ∃ m', m' < m ∧ W (i' + 1) m' H') ∧ ∀ x H', (Itt K a).yld i' H x H' → gName i x (wipe σ own) H' fun σ2 H2 => wipe σ2 own = wipe σ own ∧ tYes σ2 H2 fun b H3 =>
        if b = true then te σ2 H3 fun y H4 => ∃ acc, H4 D = some (.lst acc) ∧ acc.length < sizeLine ∧ Nx (upd H4 D (.lst (acc ++ [y]))) else Nx H3) := by
  intro D hD
  refine lc_tup (xs := vs) (fun j H' => Same H H' ∧ H' D = some (.lst ((ds.take j).map g))) ⟨same_new hD _, upd_same⟩ (fun j H' _ p => .of (p.1 _ _ hT)) (fun j x H' e p => ?_) (fun H' p => ?_)
  · obtain ⟨d, e1, hx⟩ := hA.get e
    have hj : j < ds.length := (List.getElem?_eq_some_iff.mp e1).1
    refine ⟨hw x, iteT (B := Same H H' ∧ H' D = some (.lst ((ds.take (j + 1)).map g))) (hs x d H' (List.mem_of_getElem? e1) p.1 (hx.same p.1) _ fun H3 s3 => ⟨_, s3 _ _ p.2, ?_, Same.upd_new (p.1.trans s3) hD _, ?_⟩)⟩
    · rw [List.length_map, List.length_take, sizeLine_eq]; omega
    · rw [upd_same, List.take_add_one, e1]; simp
  · refine hd D H' p.1 hD ?_
    rw [p.2, hA.len, List.take_length]

/-- a list of truths made over a tuple of things -/
theorem lc_bl {K : PySem.W.Frag} {Z : Zone} {H : Hp} {a : Addr} {vs : List V} {ds : List Th} {f : Th → Bool} {i : Nat} {own : List Nat} {te : TE} {σ : L2.St} {Q : Addr → Hp → Prop}
    (hT : H a = some (.tup vs)) (hA : AtAll Z H ds vs) (hz : ds.length ≤ 1000000) (hw : ∀ x, wipe ((wipe σ own).set i (some x)) own = wipe σ own)
    (hs : ∀ x d H2, d ∈ ds → Same H H2 → At Z H2 d x → ∀ R : VK, (∀ H3, Same H2 H3 → R (.bl (f d)) H3) → te ((wipe σ own).set i (some x)) H2 R)
    (hd : ∀ D H', Same H H' → H D = none → H' D = some (.lst ((ds.map f).map V.bl)) → Q D H') :
    ∀ D, H D = none → ∃ W : Nat → Nat → Hp → Prop, (∃ m, W 0 m (upd H D (.lst []))) ∧ ∀ i' m H, W i' m H →
      ((Itt K a).stop i' H ∧ Q D H) ∨ ((Itt K a).go i' H ∧ ∃ Nx : Hp → Prop, (∀ H', Nx H' → ∃ m', m' < m ∧ W (i' + 1) m' H') ∧ ∀ x H', (Itt K a).yld i' H x H' → gName i x (wipe σ own) H' fun σ2 H2 => wipe σ2 own = wipe σ own ∧ tYes σ2 H2 fun b H3 =>
        if b = true then te σ2 H3 fun y H4 => ∃ acc, H4 D = some (.lst acc) ∧ acc.length < sizeLine ∧ Nx (upd H4 D (.lst (acc ++ [y]))) else Nx H3) := by
  intro D hD
  refine lc_tup (xs := vs) (fun j H' => Same H H' ∧ H' D = some (.lst (((ds.take j).map f).map V.bl))) ⟨same_new hD _, upd_same⟩ (fun j H' _ p => .of (p.1 _ _ hT)) (fun j x H' e p => ?_) (fun H' p => ?_)
  · obtain ⟨d, e1, hx⟩ := hA.get e
    have hj : j < ds.length := (List.getElem?_eq_some_iff.mp e1).1
    refine ⟨hw x, iteT (B := Same H H' ∧ H' D = some (.lst (((ds.take (j + 1)).map f).map V.bl))) (hs x d H' (List.mem_of_getElem? e1) p.1 (hx.same p.1) _ fun H3 s3 => ⟨_, s3 _ _ p.2, ?_, Same.upd_new (p.1.trans s3) hD _, ?_⟩)⟩
    · rw [List.length_map, List.length_map, List.length_take, sizeLine_eq]; omega
    · rw [upd_same, List.take_add_one, e1]; simp
  · refine hd D H' p.1 hD ?_
    rw [p.2, hA.len, List.take_length]

/-- .. over a text -/
theorem lc_blS {H : Hp} {z : Str} {f : Nat → Bool} {i : Nat} {own : List Nat} {te : TE} {σ : L2.St} {Q : Addr → Hp → Prop}
    (hz : z.cps.size ≤ 1000000) (hw : ∀ x, wipe ((wipe σ own).set i (some x)) own = wipe σ own)
    (hs : ∀ c H2, Same H H2 → ∀ R : VK, (∀ H3, Same H2 H3 → R (.bl (f c)) H3) → te ((wipe σ own).set i (some (.str ⟨#[c]⟩))) H2 R)
    (hd : ∀ D H', Same H H' → H D = none → H' D = some (.lst ((z.cps.toList.map f).map V.bl)) → Q D H') :
    ∀ D, H D = none → ∃ W : Nat → Nat → Hp → Prop, (∃ m, W 0 m (upd H D (.lst []))) ∧ ∀ i' m H, W i' m H →
      ((Its z).stop i' H ∧ Q D H) ∨ ((Its z).go i' H ∧ ∃ Nx : Hp → Prop, (∀ H', Nx H' → ∃ m', m' < m ∧ W (i' + 1) m' H') ∧ ∀ x H', (Its z).yld i' H x H' → gName i x (wipe σ own) H' fun σ2 H2 => wipe σ2 own = wipe σ own ∧ tYes σ2 H2 fun b H3 =>
        if b = true then te σ2 H3 fun y H4 => ∃ acc, H4 D = some (.lst acc) ∧ acc.length < sizeLine ∧ Nx (upd H4 D (.lst (acc ++ [y]))) else Nx H3) := by
  intro D hD
  refine lc_it walk_str (fun j H' => Same H H' ∧ H' D = some (.lst (((z.cps.toList.take j).map f).map V.bl))) ⟨same_new hD _, upd_same⟩ (fun _ _ _ _ => trivial) (fun j x H1 H' hj p y => ?_) (fun H' p => ?_)
  · obtain ⟨rfl, c, e1, rfl⟩ := y
    have e2 : z.cps.toList[j]? = some c := by rw [Array.getElem?_toList]; exact e1
    refine ⟨hw _, iteT (B := Same H H' ∧ H' D = some (.lst (((z.cps.toList.take (j + 1)).map f).map V.bl))) (hs c H' p.1 _ fun H3 s3 => ⟨_, s3 _ _ p.2, ?_, Same.upd_new (p.1.trans s3) hD _, ?_⟩)⟩
    · rw [List.length_map, List.length_map, List.length_take, Array.length_toList, sizeLine_eq]; omega
    · rw [upd_same, List.take_add_one, e2]; simp
  · refine hd D H' p.1 hD ?_
    rw [p.2, ← Array.length_toList, List.take_length]

/-! ### defs and their promises -/
section
variable {P : Program} {w : World} {K : PySem.W.Frag} {mg : Str → Option Value} {base : Heap} {CX : CXT}
structure Def (K : PySem.W.Frag) (mg : Str → Option Value) (x : Str) (st : Stmt) (ps : List Str) : Prop where
  ex : ∃ f fd, Fun K x x st f fd ∧ mg x = some (.ref f) ∧ Binds K fd ps []
/-- what the module's name x holds keeps the promise sp -/
structure Cal (P : Program) (w : World) (K : PySem.W.Frag) (mg : Str → Option Value) (base : Heap) (CX : CXT) (k : Nat) (x : Str) (ps : List Str) (sp : Sp) : Prop where
  ex : ∃ f fd, FnOk P w K mg base CX k f fd ps sp ∧ mg x = some (.ref f) ∧ PySem.W.keepIn K (.ref f) = true ∧ Binds K fd ps []
theorem Cal.mono {j k : Nat} {x : Str} {ps : List Str} {sp : Sp} (c : Cal P w K mg base CX j x ps sp) (h : j ≤ k) : Cal P w K mg base CX k x ps sp :=
  let ⟨f, fd, a, b, c, d⟩ := c.ex; ⟨f, fd, a.mono h, b, c, d⟩
theorem Cal.imp {k : Nat} {x : Str} {ps : List Str} {sp sp' : Sp} (c : Cal P w K mg base CX k x ps sp) (h : ∀ vs H Q E, sp' vs H Q E → sp vs H Q E) : Cal P w K mg base CX k x ps sp' :=
  let ⟨f, fd, a, b, c, d⟩ := c.ex; ⟨f, fd, a.imp h, b, c, d⟩
/-- THE RULE for a def -/
theorem Def.ok {x : Str} {st : Stmt} {N ps : List Str} {k : Nat} {sp : Sp} (d : Def K mg x st ps) (S : FnScope N ps (defScope st)) (len : ∀ vs H Q E, sp vs H Q E → vs.length = ps.length)
    (body : ∀ (f : Addr) (cdv : Value) (A : Around) (outer : List Env) (s : Shared) (H : Hp) (vs : List V) (Q : VK) (E : XK), Room k (A.deeper (envOfC x (defScope st) s.heap.objs.size f cdv)) → sp vs H Q E →
      ∃ t, PSs (cxOf CX0 P w K mg base N x (defScope st) f cdv A outer s H E).nox (defBody st) t ∧ t { nx := fun _ H' => Q .non H', rt := Q } (start N vs) H) : Cal P w K mg base CX0 (k + 1) x ps sp := by
  obtain ⟨f, fd, F, m, b⟩ := d.ex
  exact ⟨f, fd, F.ok S len (body f), m, F.kp, b⟩
end
section
variable {X : Cx} {CX : CXT} {k : Nat} {x : Str} {ps : List Str} {sp : Sp} {e : Expr} {es : List Expr} {t : TA} {p pos : Pos}
theorem pe_cal (C : Cal X.prog X.w X.K X.mg X.base CX0 k x ps sp) (hr : Room k X.A) (hg : Gl X x) (ha : PA X (e :: es) t) (hdb : (x == ("__debug__" : Str)) = false := by decide)
    (he : starEach (e :: es) X.env = (false, eval e X.env) :: starEach es X.env := by rfl) (hpl : (backTo pos (starEach es X.env)).any (·.1) = false := by rfl) :
    PE X (.Call (.Name x p) (e :: es) [] pos) (tCall sp [] E0 t) :=
  let ⟨_, _, F, m, kp, b⟩ := C.ex
  pe_call F hr hg m kp b .nil pass0 ha hdb he hpl
end
/-- len of a list, a tuple -/
def rLenS (K : PySem.W.Frag) : List V → Hp → VK → Prop := fun xs H Q => ∃ p ys, xs = [V.ref p] ∧ (SqL K H p ys ∨ SqT K H p ys) ∧ Q (V.int ((ys.length : Nat) : Int)) H
/-- tuple of a list, a tuple -/
def rTupOf (K : PySem.W.Frag) : List V → Hp → VK → Prop := fun xs H Q => ∃ p ys, xs = [.ref p] ∧ ((SqL K H p ys ∧ ∀ l, H l = none → Q (.ref l) (upd H l (.tup ys))) ∨ (SqT K H p ys ∧ Q (.ref p) H))
/-- the built-ins' names are the built-ins' still -/
structure Zs (mg : Str → Option Value) : Prop where
  len : mg "len" = none
  isinstance : mg "isinstance" = none
  int : mg "int" = none
  bool : mg "bool" = none
  str : mg "str" = none
  tuple : mg "tuple" = none
  list : mg "list" = none
  range : mg "range" = none
  all : mg "all" = none
  sum : mg "sum" = none
  repr : mg "repr" = none
  enumerate : mg "enumerate" = none
  sorted : mg "sorted" = none
  any : mg "any" = none
  set : mg "set" = none
/-- the module's numbers -/
structure Ms (mg : Str → Option Value) (t1 t2 t3 : Tok) : Prop where
  MOST_LETTERS : mg "MOST_LETTERS" = some (.int 8 t1)
  MOST_STATES : mg "MOST_STATES" = some (.int 30 t2)
  MOST_BITS : mg "MOST_BITS" = some (.int 60 t3)
def topS (i : Nat) : Stmt := PySem.Challenge.pw_keptlengths_k11_whole_sums_closed_in_by.main.body.getD i (.Pass ⟨0, 0, 0, 0⟩)
end KL
end
section
namespace KL
open PySem PySem.Spec PyProof.Rows L2
/-! ### what the judges tell, as plain functions -/
def isNum (d : Th) : Bool := isI d && !isB d
def inn (lo hi : Int) : Th → Bool
  | .int i => decide (lo ≤ i) && decide (i ≤ hi)
  | _ => false
def isPair : Th → Bool
  | .tup xs => decide (xs.length = 2)
  | _ => false
def stepB (n : Int) : Th → Bool
  | .tup [a, b] => inn 0 60 a && inn 0 (n - 1) b
  | _ => false
def isNon : Th → Bool
  | .non => true
  | _ => false
def stepO (n : Int) (d : Th) : Bool := isNon d || stepB n d
def rowB (z n : Int) : Th → Bool
  | .tup [e, .tup ss] => (isNon e || inn 1 60 e) && decide ((ss.length : Int) = z) && ss.all (stepO n)
  | _ => false
def num : Th → Int
  | .int i => i
  | _ => 0
def machB : Th → Bool
  | .tup [z, .tup rows] => inn 1 8 z && decide (1 ≤ rows.length) && decide (rows.length ≤ 30) && rows.all (rowB (num z) (rows.length : Int))
  | _ => false
def textB (z : Int) : Th → Bool
  | .tup ls => ls.all (inn 0 (z - 1))
  | _ => false
/-! all tuples are short -/
mutual
def shortT : Th → Bool
  | .tup xs => decide (xs.length ≤ 1000000) && shortL xs
  | .str x => decide (x.cps.size ≤ 1000000)
  | _ => true
def shortL : List Th → Bool
  | [] => true
  | x :: xs => shortT x && shortL xs
end
theorem shortL_get : ∀ {xs : List Th} {i : Nat} {d : Th}, shortL xs = true → xs[i]? = some d → shortT d = true
  | [], _, _, _, e => by simp at e
  | x :: xs, 0, d, h, e => by
    rw [shortL, Bool.and_eq_true] at h
    simp at e; subst e; exact h.1
  | x :: xs, i + 1, d, h, e => by
    rw [shortL, Bool.and_eq_true] at h
    exact shortL_get h.2 (by simpa using e)
theorem shortL_mem {xs : List Th} {d : Th} (h : shortL xs = true) (m : d ∈ xs) : shortT d = true := by
  obtain ⟨i, e⟩ := List.mem_iff_getElem?.mp m
  exact shortL_get h e
/-- of a thing: what f tells -/
def spTh (f : Th → Bool) : Sp := fun vs H Q _ => ∃ Z v d, vs = [v] ∧ At Z H d v ∧ shortT d = true ∧ ∀ H', Same H H' → Q (.bl (f d)) H'
def spTh1 (f : Int → Th → Bool) : Sp := fun vs H Q _ => ∃ Z v d i, vs = [v, .int i] ∧ At Z H d v ∧ shortT d = true ∧ ∀ H', Same H H' → Q (.bl (f i d)) H'
def spTh2 (f : Int → Int → Th → Bool) : Sp := fun vs H Q _ => ∃ Z v d i j, vs = [v, .int i, .int j] ∧ At Z H d v ∧ shortT d = true ∧ ∀ H', Same H H' → Q (.bl (f i j d)) H'
abbrev sc_is_numberN : List Str := ["thing"]
abbrev s_is_number : Stmt := topS 7
theorem sc_is_number : FnScope ["thing"] ["thing"] (defScope s_is_number) := ⟨rfl, rfl, rfl, by decide +kernel, rfl, by decide +kernel, by decide +kernel⟩
abbrev sc_is_withinN : List Str := ["thing", "low", "high"]
abbrev s_is_within : Stmt := topS 8
theorem sc_is_within : FnScope ["thing", "low", "high"] ["thing", "low", "high"] (defScope s_is_within) := ⟨rfl, rfl, rfl, by decide +kernel, rfl, by decide +kernel, by decide +kernel⟩
abbrev sc_is_pairN : List Str := ["thing"]
abbrev s_is_pair : Stmt := topS 9
theorem sc_is_pair : FnScope ["thing"] ["thing"] (defScope s_is_pair) := ⟨rfl, rfl, rfl, by decide +kernel, rfl, by decide +kernel, by decide +kernel⟩
abbrev sc_is_sizeN : List Str := ["thing"]
abbrev s_is_size : Stmt := topS 16
theorem sc_is_size : FnScope ["thing"] ["thing"] (defScope s_is_size) := ⟨rfl, rfl, rfl, by decide +kernel, rfl, by decide +kernel, by decide +kernel⟩
abbrev sc_is_stepN : List Str := ["thing", "states", "more", "state"]
abbrev s_is_step : Stmt := topS 18
theorem sc_is_step : FnScope ["thing", "states", "more", "state"] ["thing", "states"] (defScope s_is_step) := ⟨rfl, rfl, rfl, by decide +kernel, rfl, by decide +kernel, by decide +kernel⟩
section
variable {P : Program} {w : World} {K : PySem.W.Frag} {mg : Str → Option Value} {base : Heap} {k : Nat}
theorem ok_is_number (Z : Zs mg) (d : Def K mg "is_number" s_is_number ["thing"]) : Cal P w K mg base CX0 (k + 1) "is_number" ["thing"] (spTh isNum) := by
  refine d.ok sc_is_number (fun vs H Q E h => ?_) (fun f cdv A outer s H vs Q E hr h => ?_)
  · obtain ⟨_, _, _, rfl, _⟩ := h; rfl
  obtain ⟨Zn, v, d, rfl, h, _, q⟩ := h
  refine ⟨_, (pss_one (ps_ret (pe_and (pe_callB (id := "isinstance") call_isi (by rfl) Z.isinstance (by decide +kernel) (pa_cons (pv 0) (pa_cons (pe_bltn (v := .ty "int") (by rfl) Z.int (by decide +kernel) rfl) pa_nil))) (pe_one (pe_not (pe_callB (id := "isinstance") call_isi (by rfl) Z.isinstance (by decide +kernel) (pa_cons (pv 0) (pa_cons (pe_bltn (v := .ty "bool") (by rfl) Z.bool (by decide +kernel) rfl) pa_nil)))))))), ?_⟩
  refine ⟨v, rfl, _, _, _, _, _, rfl, .ty _, (At.tyx (h)), kit_ty (kitI d), _, rfl, iteB (fun e => ?_) (fun e => ?_)⟩
  · refine ⟨v, rfl, _, _, _, _, _, rfl, .ty _, (At.tyx (h)), kit_ty (kitBo d), _, rfl, ?_⟩
    have q' := q H (Same.refl H)
    rw [isNum, e] at q'
    exact q'
  · have q' := q H (Same.refl H)
    rw [isNum, e] at q'
    exact q'
theorem isNum_int {d : Th} (h : isNum d = true) : ∃ i, d = .int i := by cases d <;> first | exact ⟨_, rfl⟩ | cases h
theorem ok_is_within (c_is_number : Cal P w K mg base CX0 k "is_number" ["thing"] (spTh isNum)) (d : Def K mg "is_within" s_is_within ["thing", "low", "high"]) : Cal P w K mg base CX0 (k + 1) "is_within" ["thing", "low", "high"] (spTh2 inn) := by
  refine d.ok sc_is_within (fun vs H Q E h => ?_) (fun f cdv A outer s H vs Q E hr h => ?_)
  · obtain ⟨_, _, _, _, _, rfl, _⟩ := h; rfl
  obtain ⟨Zn, v, d, lo, hi, rfl, h, sd, q⟩ := h
  refine ⟨_, (pss_one (ps_ret (pe_and (pe_cal c_is_number hr (by rfl) (pa_cons (pv 0) pa_nil)) (pe_one (pe_chain op_le op_le (pv 1) (pv 0) (pv 2)))))), ?_⟩
  refine ⟨v, rfl, Zn, v, d, rfl, h, sd, fun H1 s1 => ⟨_, rfl, iteB (fun e => ?_) (fun e => ?_)⟩⟩
  · obtain ⟨i, rfl⟩ := isNum_int e
    cases h
    refine ⟨_, rfl, _, rfl, _, _, rfl, rfl, _, rfl, iteB (fun e1 => ?_) (fun e1 => ?_)⟩
    · refine ⟨_, rfl, _, _, rfl, rfl, ?_⟩
      have q' := q H1 s1
      rw [inn, e1] at q'
      exact q'
    · have q' := q H1 s1
      rw [inn, e1] at q'
      exact q'
  · have q' := q H1 s1
    rw [show inn lo hi d = false by cases d <;> first | rfl | cases e] at q'
    exact q'
theorem isT_tup {d : Th} (h : isT d = true) : ∃ xs, d = .tup xs := by cases d <;> first | exact ⟨_, rfl⟩ | cases h
theorem ok_is_pair (Z : Zs mg) (d : Def K mg "is_pair" s_is_pair ["thing"]) : Cal P w K mg base CX0 (k + 1) "is_pair" ["thing"] (spTh isPair) := by
  refine d.ok sc_is_pair (fun vs H Q E h => ?_) (fun f cdv A outer s H vs Q E hr h => ?_)
  · obtain ⟨_, _, _, rfl, _⟩ := h; rfl
  obtain ⟨Zn, v, d, rfl, h, _, q⟩ := h
  refine ⟨_, (pss_one (ps_ret (pe_and (pe_callB (id := "isinstance") call_isi (by rfl) Z.isinstance (by decide +kernel) (pa_cons (pv 0) (pa_cons (pe_bltn (v := .ty "tuple") (by rfl) Z.tuple (by decide +kernel) rfl) pa_nil))) (pe_one (pe_cmpR op_eq (pe_callB (id := "len") call_len_seq (by rfl) Z.len (by decide +kernel) (pa_cons (pv 0) pa_nil)) pe_int (nomark _)))))), ?_⟩
  refine ⟨v, rfl, _, _, _, _, _, rfl, .ty _, (At.tyx (h)), kit_ty (kitT d), _, rfl, iteB (fun e => ?_) (fun e => ?_)⟩
  · obtain ⟨xs, rfl⟩ := isT_tup e
    obtain ⟨a, us, rfl, _, ea, ha⟩ := h
    refine ⟨_, rfl, a, us, rfl, .inr (.of ea), rfl, ?_⟩
    have q' := q H (Same.refl H)
    rw [isPair] at q'
    rw [ha.len, show decide (V.int ((xs.length : Nat) : Int) = V.int 2) = decide (xs.length = 2) from decide_eq_decide.mpr ⟨fun e => by injection e with e; omega, fun e => by rw [e]; rfl⟩]
    exact q'
  · have q' := q H (Same.refl H)
    rw [show isPair d = false by cases d <;> first | rfl | cases e] at q'
    exact q'
theorem ok_is_size {t1 t2 t3 : Tok} (M : Ms mg t1 t2 t3) (c_is_within : Cal P w K mg base CX0 k "is_within" ["thing", "low", "high"] (spTh2 inn)) (d : Def K mg "is_size" s_is_size ["thing"]) : Cal P w K mg base CX0 (k + 1) "is_size" ["thing"] (spTh (inn 1 8)) := by
  refine d.ok sc_is_size (fun vs H Q E h => ?_) (fun f cdv A outer s H vs Q E hr h => ?_)
  · obtain ⟨_, _, _, rfl, _⟩ := h; rfl
  obtain ⟨Zn, v, d, rfl, h, sd, q⟩ := h
  refine ⟨_, (pss_one (ps_ret (pe_cal c_is_within hr (by rfl) (pa_cons (pv 0) (pa_cons pe_int (pa_cons (pe_glob (v := .int 8) (by rfl) M.MOST_LETTERS ⟨_, rfl⟩) pa_nil)))))), ?_⟩
  exact ⟨v, rfl, Zn, v, d, 1, 8, rfl, h, sd, fun H1 s1 => q H1 s1⟩
theorem isPair_tup {d : Th} (h : isPair d = true) : ∃ a b, d = .tup [a, b] := by
  cases d with
  | tup xs =>
    rw [isPair, decide_eq_true_eq] at h
    match xs, h with
    | [a, b], _ => exact ⟨a, b, rfl⟩
  | _ => cases h
theorem At.pair {Z : Zone} {H : Hp} {a b : Th} {v : V} (h : At Z H (.tup [a, b]) v) : ∃ p u w', v = .ref p ∧ H p = some (.tup [u, w']) ∧ At Z H a u ∧ At Z H b w' := by
  obtain ⟨p, vs, rfl, _, e, u, us, rfl, h1, w', ws, rfl, h2, e3⟩ := h
  rw [show ws = [] from e3] at e
  exact ⟨p, u, w', rfl, e, h1, h2⟩
theorem short_pair {a b : Th} (h : shortT (.tup [a, b]) = true) : shortT a = true ∧ shortT b = true := by
  simp only [shortT, shortL, Bool.and_eq_true] at h
  exact ⟨h.2.1, h.2.2.1⟩
theorem short_tup {xs : List Th} (h : shortT (.tup xs) = true) : xs.length ≤ 1000000 ∧ shortL xs = true := by
  simp only [shortT, Bool.and_eq_true, decide_eq_true_eq] at h
  exact h
theorem not_true {b : Bool} (h : (!b) = true) : b = false := by cases b <;> first | rfl | cases h
theorem not_false' {b : Bool} (h : (!b) = false) : b = true := by cases b <;> first | rfl | cases h
theorem At.isN {Z : Zone} {H : Hp} {d : Th} {v : V} (h : At Z H d v) : decide (v = .non) = isNon d := by
  cases d with
  | non => cases h; rfl
  | bl b => cases h; rfl
  | int i => cases h; rfl
  | str x => cases h; rfl
  | lst xs => obtain ⟨a, vs, rfl, _⟩ := h; rfl
  | tup xs => obtain ⟨a, vs, rfl, _⟩ := h; rfl
  | dic xs => obtain ⟨a, l, vs, rfl, _⟩ := h; rfl
theorem ok_is_step {t1 t2 t3 : Tok} (M : Ms mg t1 t2 t3) (c_is_pair : Cal P w K mg base CX0 k "is_pair" ["thing"] (spTh isPair)) (c_is_within : Cal P w K mg base CX0 k "is_within" ["thing", "low", "high"] (spTh2 inn)) (d : Def K mg "is_step" s_is_step ["thing", "states"]) : Cal P w K mg base CX0 (k + 1) "is_step" ["thing", "states"] (spTh1 stepB) := by
  refine d.ok sc_is_step (fun vs H Q E h => ?_) (fun f cdv A outer s H vs Q E hr h => ?_)
  · obtain ⟨_, _, _, _, rfl, _⟩ := h; rfl
  obtain ⟨Zn, v, d, n, rfl, h, sd, q⟩ := h
  refine ⟨_, (pss_cons (ps_if (pt_not (pt_val (pe_cal c_is_pair hr (by rfl) (pa_cons (pv 0) pa_nil)))) (pss_one (ps_ret pe_bl)) pss_nil)
      (pss_cons (ps_asg (pv 0) (pg_tup (by rfl) (pgs_cons (pg_name (i := 2) sc_is_step.nd rfl (Or.inl rfl)) (pgs_cons (pg_name (i := 3) sc_is_step.nd rfl (Or.inl rfl)) pgs_nil))))
      (pss_one (ps_ret (pe_and (pe_cal c_is_within hr (by rfl) (pa_cons (pv 2) (pa_cons pe_int (pa_cons (pe_glob (v := .int 60) (by rfl) M.MOST_BITS ⟨_, rfl⟩) pa_nil)))) (pe_one (pe_cal c_is_within hr (by rfl) (pa_cons (pv 3) (pa_cons pe_int (pa_cons (pe_op op_sub (pv 1) pe_int) pa_nil)))))))))), ?_⟩
  refine ⟨v, rfl, Zn, v, d, rfl, h, sd, fun H1 s1 => ⟨_, rfl, iteB (fun e => ?_) (fun e => ?_)⟩⟩
  · have q' := q H1 s1
    rw [show stepB n d = false by
      have e' := not_true e
      cases d with
      | tup xs => match xs, e' with
        | [], _ => rfl
        | [_], _ => rfl
        | [_, _], e' => cases e'
        | _ :: _ :: _ :: _, _ => rfl
      | _ => rfl] at q'
    exact q'
  · obtain ⟨a, b, rfl⟩ := isPair_tup (not_false' e)
    obtain ⟨p, u, w', rfl, ep, ha, hb⟩ := (h.same s1).pair
    obtain ⟨sa, sb⟩ := short_pair sd
    refine ⟨_, rfl, p, [u, w'], rfl, .of ep, rfl, u, [w'], rfl, w', [], rfl, rfl, ?_⟩
    refine ⟨u, rfl, Zn, u, a, 0, 60, rfl, ha, sa, fun H2 s2 => ⟨_, rfl, iteB (fun e1 => ?_) (fun e1 => ?_)⟩⟩
    · refine ⟨w', rfl, _, rfl, _, _, rfl, rfl, Zn, w', b, 0, n - 1, rfl, hb.same s2, sb, fun H3 s3 => ?_⟩
      have q' := q H3 (s1.trans (s2.trans s3))
      rw [stepB, e1] at q'
      exact q'
    · have q' := q H2 (s1.trans s2)
      rw [stepB, e1] at q'
      exact q'
abbrev sc_is_rowN : List Str := ["thing", "size", "states", "end", "steps", "step"]
abbrev s_is_row : Stmt := topS 17
theorem sc_is_row : FnScope ["thing", "size", "states", "end", "steps", "step"] ["thing", "size", "states"] (defScope s_is_row) := ⟨rfl, rfl, rfl, by decide +kernel, rfl, by decide +kernel, by decide +kernel⟩
def tlen : Th → Nat
  | .tup xs => xs.length
  | _ => 0
theorem rowB_not {z n : Int} {d : Th} (h : isPair d = false) : rowB z n d = false := by
  cases d with
  | tup xs =>
    match xs, h with
    | [], _ => rfl
    | [_], _ => rfl
    | [_, _], h => cases h
    | a :: b :: c :: r, _ => cases b <;> rfl
  | _ => rfl
theorem rowB_end {z n : Int} {a b : Th} (h : (!(isNon a || inn 1 60 a)) = true) : rowB z n (.tup [a, b]) = false := by
  cases b with
  | tup ss => rw [rowB, not_true h]; rfl
  | _ => rfl
theorem rowB_len {z n : Int} {a b : Th} (h : (!(isT b && decide (((tlen b : Nat) : Int) = z))) = true) : rowB z n (.tup [a, b]) = false := by
  have h' := not_true h
  cases b with
  | tup ss =>
    rw [show isT (Th.tup ss) = true from rfl, Bool.true_and] at h'
    rw [rowB, show decide ((ss.length : Int) = z) = false from h', Bool.and_false, Bool.false_and]
  | _ => rfl
theorem ok_is_row {t1 t2 t3 : Tok} (Z : Zs mg) (M : Ms mg t1 t2 t3) (c_is_pair : Cal P w K mg base CX0 k "is_pair" ["thing"] (spTh isPair)) (c_is_within : Cal P w K mg base CX0 k "is_within" ["thing", "low", "high"] (spTh2 inn)) (c_is_step : Cal P w K mg base CX0 k "is_step" ["thing", "states"] (spTh1 stepB)) (d : Def K mg "is_row" s_is_row ["thing", "size", "states"]) : Cal P w K mg base CX0 (k + 1) "is_row" ["thing", "size", "states"] (spTh2 rowB) := by
  refine d.ok sc_is_row (fun vs H Q E h => ?_) (fun f cdv A outer s H vs Q E hr h => ?_)
  · obtain ⟨_, _, _, _, _, rfl, _⟩ := h; rfl
  obtain ⟨Zn, v, d, z, n, rfl, h, sd, q⟩ := h
  refine ⟨_, (pss_cons (ps_if (pt_not (pt_val (pe_cal c_is_pair hr (by rfl) (pa_cons (pv 0) pa_nil)))) (pss_one (ps_ret pe_bl)) pss_nil)
      (pss_cons (ps_asg (pv 0) (pg_tup (by rfl) (pgs_cons (pg_name (i := 3) sc_is_row.nd rfl (Or.inl rfl)) (pgs_cons (pg_name (i := 4) sc_is_row.nd rfl (Or.inl rfl)) pgs_nil))))
      (pss_cons (ps_if (PW.pt (pw_and (pt_cmpR op_notN (pv 3) pe_non (nomark _)) (pw_and1 (pt_not (pt_val (pe_cal c_is_within hr (by rfl) (pa_cons (pv 3) (pa_cons pe_int (pa_cons (pe_glob (v := .int 60) (by rfl) M.MOST_BITS ⟨_, rfl⟩) pa_nil))))))))) (pss_one (ps_ret pe_bl)) pss_nil)
      (pss_cons (ps_if (PW.pt (pw_or (pt_not (pt_val (pe_callB (id := "isinstance") call_isi (by rfl) Z.isinstance (by decide +kernel) (pa_cons (pv 4) (pa_cons (pe_bltn (v := .ty "tuple") (by rfl) Z.tuple (by decide +kernel) rfl) pa_nil))))) (pw_or1 (pt_cmpR op_ne (pe_callB (id := "len") call_len_seq (by rfl) Z.len (by decide +kernel) (pa_cons (pv 4) pa_nil)) (pv 1) (nomark _))))) (pss_one (ps_ret pe_bl)) pss_nil)
      (pss_one (ps_ret (pe_callB (id := "all") (cr_all rfl) (by rfl) Z.all (by decide +kernel) (pa_cons (pe_lc (own := [("step", 5)]) (g := gName 5) (tt := tYes) rfl sc_is_row.nd (pi_tup (pv 4)) (blkOk_by (N := ["thing", "size", "states", "end", "steps", "step"]) (sc := defScope s_is_row) (by decide +kernel)) (fun _ _ _ _ _ => (pg_name (i := 5) sc_is_row.nd rfl (Or.inl rfl))) (fun _ _ _ _ _ => pts_nil) (fun _ _ _ _ _ => (pe_or (pe_cmpR op_isN (pv 5) pe_non (nomark _)) (pe_one (pe_cal c_is_step hr (by rfl) (pa_cons (pv 5) (pa_cons (pv 2) pa_nil))))))) pa_nil)))))))), ?_⟩
  refine ⟨v, rfl, Zn, v, d, rfl, h, sd, fun H1 s1 => ⟨_, rfl, iteB (fun e => ?_) (fun e => ?_)⟩⟩
  · have q' := q H1 s1
    rw [rowB_not (not_true e)] at q'
    exact q'
  obtain ⟨a, b, rfl⟩ := isPair_tup (not_false' e)
  obtain ⟨p, u, w', rfl, ep, ha, hb⟩ := (h.same s1).pair
  obtain ⟨sa, sb⟩ := short_pair sd
  refine ⟨_, rfl, p, [u, w'], rfl, .of ep, rfl, u, [w'], rfl, w', [], rfl, rfl, ?_⟩
  -- if end is not None and not is_within(end, ..)
  try dsimp only
  refine rd_ifs (!(isNon a || inn 1 60 a)) (fun R hR => ?_) (fun H2 s2 e2 => ?_) (fun H2 s2 e2 => ?_)
  · refine ⟨u, rfl, rfl, _, rfl, iteB (fun e1 => ?_) (fun e1 => ?_)⟩
    · rw [ha.isN] at e1
      refine ⟨u, rfl, Zn, u, a, 1, 60, rfl, ha, sa, fun H2 s2 => ⟨_, rfl, ?_⟩⟩
      have r' := hR H2 s2
      rw [not_true e1, Bool.false_or] at r'
      exact r'
    · rw [ha.isN] at e1
      have r' := hR H1 (Same.refl H1)
      rw [not_false' e1, Bool.true_or] at r'
      exact r'
  · have q' := q H2 (s1.trans s2)
    rw [rowB_end e2] at q'
    exact q'
  have eA := not_false' e2
  try dsimp only
  refine rd_ifs (!(isT b && decide (((tlen b : Nat) : Int) = z))) (fun R hR => ?_) (fun H3 s3 e3 => ?_) (fun H3 s3 e3 => ?_)
  · refine ⟨w', rfl, _, _, _, _, _, rfl, .ty _, (At.tyx (hb.same s2)), kit_ty (kitT b), _, rfl, iteB (fun e3 => ?_) (fun e3 => ?_)⟩
    · have r' := hR H2 (Same.refl H2)
      rw [not_true e3, Bool.false_and] at r'
      exact r'
    · obtain ⟨ss, rfl⟩ := isT_tup (not_false' e3)
      obtain ⟨p2, us, rfl, _, e2', hs⟩ := hb.same s2
      refine ⟨_, rfl, p2, us, rfl, .inr (.of e2'), _, rfl, rfl, _, rfl, ?_⟩
      have r' := hR H2 (Same.refl H2)
      rw [hs.len]
      rw [show isT (Th.tup ss) = true from rfl, Bool.true_and] at r'
      rw [show decide (V.int ((ss.length : Nat) : Int) = V.int z) = decide (((tlen (.tup ss) : Nat) : Int) = z) from decide_eq_decide.mpr ⟨fun e => by injection e, fun e => congrArg V.int e⟩]
      exact r'
  · have q' := q H3 (s1.trans (s2.trans s3))
    rw [rowB_len e3] at q'
    exact q'
  have e4 := not_false' e3
  rw [Bool.and_eq_true, decide_eq_true_eq] at e4
  obtain ⟨ss, rfl⟩ := isT_tup e4.1
  obtain ⟨p2, us, rfl, _, e2', hs⟩ := (hb.same s2).same s3
  obtain ⟨l1, l2⟩ := short_tup sb
  refine ⟨_, rfl, p2, rfl, ⟨_, .of e2'⟩, lc_bl (f := stepO n) e2' hs l1 (fun _ => rfl) (fun x dx H4 md s4 hx R hR => ?_) (fun D H4 s4 hD eD => ⟨D, _, rfl, .of eD, ?_⟩)⟩
  · refine ⟨x, rfl, rfl, _, rfl, iteB (fun e5 => ?_) (fun e5 => ?_)⟩
    · rw [hx.isN] at e5
      have r' := hR H4 (Same.refl H4)
      rw [stepO, e5, Bool.true_or] at r'
      exact r'
    · rw [hx.isN] at e5
      refine ⟨x, rfl, _, rfl, Zn, x, dx, n, rfl, hx, ?_, fun H5 s5 => ?_⟩
      · exact shortL_mem l2 md
      · have r' := hR H5 s5
        rw [stepO, e5, Bool.false_or] at r'
        exact r'
  · have q' := q H4 (s1.trans (s2.trans (s3.trans s4)))
    rw [show rowB z n (.tup [a, .tup ss]) = ((ss.map (stepO n)).all id) by
      rw [rowB, eA, show decide ((ss.length : Int) = z) = true from decide_eq_true e4.2, List.all_map]; rfl] at q'
    exact q'
abbrev sc_is_framedN : List Str := ["thing", "size", "rows"]
abbrev s_is_framed : Stmt := topS 15
theorem sc_is_framed : FnScope ["thing", "size", "rows"] ["thing"] (defScope s_is_framed) := ⟨rfl, rfl, rfl, by decide +kernel, rfl, by decide +kernel, by decide +kernel⟩
abbrev sc_is_machineN : List Str := ["thing", "size", "rows", "row"]
abbrev s_is_machine : Stmt := topS 14
theorem sc_is_machine : FnScope ["thing", "size", "rows", "row"] ["thing"] (defScope s_is_machine) := ⟨rfl, rfl, rfl, by decide +kernel, rfl, by decide +kernel, by decide +kernel⟩
theorem machB_not {d : Th} (h : isPair d = false) : machB d = false := by
  cases d with
  | tup xs =>
    match xs, h with
    | [], _ => rfl
    | [_], _ => rfl
    | [_, _], h => cases h
    | a :: b :: c :: r, _ => cases b <;> rfl
  | _ => rfl
theorem machB_size {z r : Th} (h : (!(inn 1 8 z && isT r)) = true) : machB (.tup [z, r]) = false := by
  have h' := not_true h
  cases r with
  | tup rows =>
    rw [show isT (Th.tup rows) = true from rfl, Bool.and_true] at h'
    rw [machB, h', Bool.false_and, Bool.false_and, Bool.false_and]
  | _ => rfl
theorem inn_int {lo hi : Int} {d : Th} (h : inn lo hi d = true) : ∃ i, d = .int i ∧ lo ≤ i ∧ i ≤ hi := by
  cases d with
  | int i =>
    rw [inn, Bool.and_eq_true, decide_eq_true_eq, decide_eq_true_eq] at h
    exact ⟨i, rfl, h.1, h.2⟩
  | _ => cases h
def framB : Th → Bool
  | .tup [a, .tup rows] => inn 1 8 a && decide (1 ≤ rows.length) && decide (rows.length ≤ 30)
  | _ => false
theorem framB_not {d : Th} (h : isPair d = false) : framB d = false := by
  cases d with
  | tup xs =>
    match xs, h with
    | [], _ => rfl
    | [_], _ => rfl
    | [_, _], h => cases h
    | a :: b :: c :: r, _ => cases b <;> rfl
  | _ => rfl
theorem framB_is {d : Th} (h : framB d = true) : ∃ z rows, d = .tup [.int z, .tup rows] ∧ 1 ≤ z ∧ z ≤ 8 ∧ 1 ≤ rows.length ∧ rows.length ≤ 30 := by
  cases d with
  | tup xs =>
    match xs, h with
    | [a, .tup rows], h =>
      rw [framB, Bool.and_eq_true, Bool.and_eq_true, decide_eq_true_eq, decide_eq_true_eq] at h
      obtain ⟨z, rfl, z1, z8⟩ := inn_int h.1.1
      exact ⟨z, rows, rfl, z1, z8, h.1.2, h.2⟩
  | _ => cases h
theorem machB_fram {d : Th} (h : framB d = false) : machB d = false := by
  cases d with
  | tup xs =>
    match xs, h with
    | [], _ => rfl
    | [_], _ => rfl
    | [a, .tup rows], h =>
      rw [framB] at h
      rw [machB, h, Bool.false_and]
    | [a, .non], _ | [a, .bl _], _ | [a, .int _], _ | [a, .str _], _ | [a, .lst _], _ | [a, .dic _], _ => rfl
    | a :: b :: c :: r, _ => cases b <;> rfl
  | _ => rfl
theorem machB_rows {a : Th} {rows : List Th} (h : framB (.tup [a, .tup rows]) = true) : machB (.tup [a, .tup rows]) = rows.all (rowB (num a) (rows.length : Int)) := by
  rw [framB] at h
  rw [machB, h, Bool.true_and]
theorem ok_is_framed {t1 t2 t3 : Tok} (Z : Zs mg) (M : Ms mg t1 t2 t3) (c_is_pair : Cal P w K mg base CX0 k "is_pair" ["thing"] (spTh isPair)) (c_is_size : Cal P w K mg base CX0 k "is_size" ["thing"] (spTh (inn 1 8))) (d : Def K mg "is_framed" s_is_framed ["thing"]) : Cal P w K mg base CX0 (k + 1) "is_framed" ["thing"] (spTh framB) := by
  refine d.ok sc_is_framed (fun vs H Q E h => ?_) (fun f cdv A outer s H vs Q E hr h => ?_)
  · obtain ⟨_, _, _, rfl, _⟩ := h; rfl
  obtain ⟨Zn, v, d, rfl, h, sd, q⟩ := h
  refine ⟨_, (pss_cons (ps_if (pt_not (pt_val (pe_cal c_is_pair hr (by rfl) (pa_cons (pv 0) pa_nil)))) (pss_one (ps_ret pe_bl)) pss_nil)
      (pss_cons (ps_asg (pv 0) (pg_tup (by rfl) (pgs_cons (pg_name (i := 1) sc_is_framed.nd rfl (Or.inl rfl)) (pgs_cons (pg_name (i := 2) sc_is_framed.nd rfl (Or.inl rfl)) pgs_nil))))
      (pss_one (ps_ret (pe_and (pe_cal c_is_size hr (by rfl) (pa_cons (pv 1) pa_nil)) (pe_and (pe_callB (id := "isinstance") call_isi (by rfl) Z.isinstance (by decide +kernel) (pa_cons (pv 2) (pa_cons (pe_bltn (v := .ty "tuple") (by rfl) Z.tuple (by decide +kernel) rfl) pa_nil))) (pe_one (pe_chain op_le op_le pe_int (pe_callB (id := "len") call_len_seq (by rfl) Z.len (by decide +kernel) (pa_cons (pv 2) pa_nil)) (pe_glob (v := .int 30) (by rfl) M.MOST_STATES ⟨_, rfl⟩))))))))), ?_⟩
  refine ⟨v, rfl, Zn, v, d, rfl, h, sd, fun H1 s1 => ⟨_, rfl, iteB (fun e => ?_) (fun e => ?_)⟩⟩
  · have q' := q H1 s1
    rw [framB_not (not_true e)] at q'
    exact q'
  obtain ⟨a, b, rfl⟩ := isPair_tup (not_false' e)
  obtain ⟨p, u, w', rfl, ep, ha, hb⟩ := (h.same s1).pair
  obtain ⟨sa, sb⟩ := short_pair sd
  refine ⟨_, rfl, p, [u, w'], rfl, .of ep, rfl, u, [w'], rfl, w', [], rfl, rfl, ?_⟩
  refine ⟨u, rfl, Zn, u, a, rfl, ha, sa, fun H2 s2 => ⟨_, rfl, ?_⟩⟩
  have s12 := s1.trans s2
  cases e2 : inn 1 8 a with
  | false =>
    have q' := q H2 s12
    rw [show framB (.tup [a, b]) = false by cases b <;> first | rfl | (rw [framB, e2]; rfl)] at q'
    exact q'
  | true =>
    refine ⟨w', rfl, _, _, _, _, _, rfl, .ty _, (At.tyx (hb.same s2)), kit_ty (kitT b), _, rfl, ?_⟩
    cases e3 : isT b with
    | false =>
      have q' := q H2 s12
      rw [show framB (.tup [a, b]) = false by cases b <;> first | rfl | cases e3] at q'
      exact q'
    | true =>
      obtain ⟨rows, rfl⟩ := isT_tup e3
      obtain ⟨p2, us, rfl, _, e2', hs⟩ := hb.same s2
      have hl : ((us.length : Nat) : Int) = ((rows.length : Nat) : Int) := by rw [hs.len]
      have d1 : decide ((1 : Int) ≤ ((us.length : Nat) : Int)) = decide (1 ≤ rows.length) := by rw [hl]; exact decide_eq_decide.mpr (by omega)
      have d2 : decide (((us.length : Nat) : Int) ≤ (30 : Int)) = decide (rows.length ≤ 30) := by rw [hl]; exact decide_eq_decide.mpr (by omega)
      refine ⟨_, rfl, p2, us, rfl, .inr (.of e2'), _, _, rfl, rfl, _, rfl, iteB (fun e4 => ?_) (fun e4 => ?_)⟩
      · rw [d1] at e4
        refine ⟨_, _, rfl, rfl, ?_⟩
        have q' := q H2 s12
        rw [framB, e2, e4, Bool.true_and, Bool.true_and, ← d2] at q'
        exact q'
      · rw [d1] at e4
        have q' := q H2 s12
        rw [framB, e2, e4, Bool.true_and, Bool.false_and] at q'
        exact q'
theorem ok_is_machine (Z : Zs mg) (c_is_framed : Cal P w K mg base CX0 k "is_framed" ["thing"] (spTh framB)) (c_is_row : Cal P w K mg base CX0 k "is_row" ["thing", "size", "states"] (spTh2 rowB)) (d : Def K mg "is_machine" s_is_machine ["thing"]) : Cal P w K mg base CX0 (k + 1) "is_machine" ["thing"] (spTh machB) := by
  refine d.ok sc_is_machine (fun vs H Q E h => ?_) (fun f cdv A outer s H vs Q E hr h => ?_)
  · obtain ⟨_, _, _, rfl, _⟩ := h; rfl
  obtain ⟨Zn, v, d, rfl, h, sd, q⟩ := h
  refine ⟨_, (pss_cons (ps_if (pt_not (pt_val (pe_cal c_is_framed hr (by rfl) (pa_cons (pv 0) pa_nil)))) (pss_one (ps_ret pe_bl)) pss_nil)
      (pss_cons (ps_asg (pv 0) (pg_tup (by rfl) (pgs_cons (pg_name (i := 1) sc_is_machine.nd rfl (Or.inr rfl)) (pgs_cons (pg_name (i := 2) sc_is_machine.nd rfl (Or.inr rfl)) pgs_nil))))
      (pss_one (ps_ret (pe_callB (id := "all") (cr_all rfl) (by rfl) Z.all (by decide +kernel) (pa_cons (pe_lc (own := [("row", 3)]) (g := gName 3) (tt := tYes) rfl sc_is_machine.nd (pi_tup (pv 2)) (blkOk_by (N := ["thing", "size", "rows", "row"]) (sc := defScope s_is_machine) (by decide +kernel)) (fun _ _ _ _ _ => (pg_name (i := 3) sc_is_machine.nd rfl (Or.inl rfl))) (fun _ _ _ _ _ => pts_nil) (fun _ _ _ _ _ => (pe_cal c_is_row hr (by rfl) (pa_cons (pv 3) (pa_cons (pv 1) (pa_cons (pe_callB (id := "len") (r := rLenS K) call_len_seq (by rfl) Z.len (by decide +kernel) (pa_cons (pv 2) pa_nil)) pa_nil)))))) pa_nil)))))), ?_⟩
  refine ⟨v, rfl, Zn, v, d, rfl, h, sd, fun H1 s1 => ⟨_, rfl, iteB (fun e => ?_) (fun e => ?_)⟩⟩
  · have q' := q H1 s1
    rw [machB_fram (not_true e)] at q'
    exact q'
  have e0 := not_false' e
  obtain ⟨z, rows, rfl, z1, z8, n1, n30⟩ := framB_is e0
  obtain ⟨p, u, w', rfl, ep, ha, hb⟩ := (h.same s1).pair
  obtain ⟨sa, sb⟩ := short_pair sd
  cases ha
  obtain ⟨p2, us, rfl, _, e2', hs⟩ := hb
  obtain ⟨l1, l2⟩ := short_tup sb
  have hl : ((us.length : Nat) : Int) = ((rows.length : Nat) : Int) := by rw [hs.len]
  refine ⟨_, rfl, p, _, rfl, .of ep, rfl, _, _, rfl, _, _, rfl, rfl, ?_⟩
  refine ⟨_, rfl, p2, rfl, ⟨_, .of e2'⟩, lc_bl (f := rowB z (rows.length : Int)) e2' hs l1 (fun _ => rfl) (fun x dx H4 md s4 hx R hR => ?_) (fun D H4 s4 hD eD => ⟨D, _, rfl, .of eD, ?_⟩)⟩
  · refine ⟨x, rfl, _, rfl, _, rfl, p2, us, rfl, .inr (.of (s4 _ _ e2')), Zn, x, dx, z, _, rfl, hx, shortL_mem l2 md, fun H5 s5 => ?_⟩
    rw [hl]
    exact hR H5 s5
  · have q' := q H4 (s1.trans s4)
    rw [machB_rows e0, show rows.all (rowB (num (.int z)) (rows.length : Int)) = ((rows.map (rowB z (rows.length : Int))).all id) by rw [List.all_map]; rfl] at q'
    exact q'
end
end KL
end
section
namespace KL
open PySem PySem.Spec PyProof.Rows L2
/-! ### the well: a list of the script's cells, and three numbers -/
def WellAt (W c : Addr) (H : Hp) : Prop := ∃ (ns : List Int) (n v g : Int), H W = some (.lst [.ref c, .int n, .int v, .int g]) ∧ H c = some (.lst (ns.map V.int)) ∧ ns.length ≤ 63 ∧ (0 : Int) ≤ n
def spMixed : Sp := fun vs H Q _ => ∃ n, vs = [.int n] ∧ ∀ r, Q (.int r) H
def spFilled : Sp := fun vs H Q _ => ∃ W c, vs = [.ref W] ∧ WellAt W c H ∧ ∀ r H', SB (At1 W) H H' → WellAt W c H' → Q (.int r) H'
def spDraw : Sp := fun vs H Q _ => ∃ W c m, vs = [.ref W, .int m] ∧ WellAt W c H ∧ 0 < m ∧ m < 1073741824 ∧ ∀ r H', 0 ≤ r → r < m → SB (At1 W) H H' → WellAt W c H' → Q (.int r) H'
section
variable {P : Program} {w : World} {K : PySem.W.Frag} {mg : Str → Option Value} {base : Heap} {k : Nat}
theorem cell_at {ns : List Int} {n : Int} (h0 : 0 ≤ n) (h : n + 1 ≤ ((ns.map V.int).length : Nat)) : ∃ x : Int, atI (ns.map V.int) (n + 1 - 1) = some (.int x) := by
  rw [List.length_map] at h
  have hk : n.toNat < ns.length := by omega
  have e : n + 1 - 1 = ((n.toNat : Nat) : Int) := by omega
  refine ⟨ns[n.toNat], ?_⟩
  rw [e]
  exact atI_nat (by rw [List.getElem?_map, List.getElem?_eq_getElem hk]; rfl)
theorem cells_ne {W c : Addr} {H : Hp} {a : Addr} {xs : List V} {ns : List Int} (hW : H W = some (.lst (.ref a :: xs))) (hc : H c = some (.lst (ns.map V.int))) : c ≠ W := fun e => by
  rw [e, hW] at hc
  have e2 := Option.some.inj hc
  injection e2 with e3
  cases ns with
  | nil => cases e3
  | cons a b => injection e3 with e4 _; cases e4
def spWell (K : PySem.W.Frag) : Sp := fun vs H Q _ => ∃ a ns, vs = [.ref a] ∧ SqL K H a (List.map V.int ns) ∧ ns.length ≤ 63 ∧ ∀ W c H', Same H H' → H W = none → WellAt W c H' → Q (.ref W) H'
theorem cut_ints (ns : List Int) (lo hi : Option Int) : ∃ ms : List Int, cutV (ns.map V.int) lo hi = ms.map V.int ∧ ms.length ≤ ns.length := by
  unfold cutV
  refine ⟨(ns.drop (HT.sIx (ns.map V.int).length 0 lo)).take (HT.sIx (ns.map V.int).length (ns.map V.int).length hi - HT.sIx (ns.map V.int).length 0 lo), ?_, ?_⟩
  · rw [List.map_take, List.map_drop]
  · rw [List.length_take, List.length_drop]; omega
end
end KL
end
section
namespace KL
open PySem PySem.Spec PyProof.Rows L2
/-! ### how great a thing is -/
mutual
def bk : Th → Nat
  | .str x => x.cps.size
  | .lst xs => bkL xs
  | .tup xs => bkL xs
  | .dic xs => bkL xs + 5
  | _ => 0
def bkL : List Th → Nat
  | [] => 0
  | x :: xs => bk x + 1 + bkL xs
end
mutual
def lf (M : Nat) : Th → Bool
  | .int i => decide (i.natAbs ≤ M)
  | .str x => x.cps.toList.all fun c => decide (c < 128)
  | .lst xs => lfL M xs
  | .tup xs => lfL M xs
  | .dic xs => lfL M xs
  | _ => true
def lfL (M : Nat) : List Th → Bool
  | [] => true
  | x :: xs => lf M x && lfL M xs
end
mutual
def dp : Th → Nat
  | .lst xs => dpL xs + 1
  | .tup xs => dpL xs + 1
  | .dic xs => dpL xs + 2
  | _ => 0
def dpL : List Th → Nat
  | [] => 0
  | x :: xs => max (dp x) (dpL xs)
end
theorem bkL_append : ∀ xs ys : List Th, bkL (xs ++ ys) = bkL xs + bkL ys
  | [], ys => by simp [bkL]
  | x :: xs, ys => by rw [List.cons_append, bkL, bkL, bkL_append xs ys]; omega
theorem lfL_append (M : Nat) : ∀ xs ys : List Th, lfL M (xs ++ ys) = (lfL M xs && lfL M ys)
  | [], ys => by simp [lfL]
  | x :: xs, ys => by rw [List.cons_append, lfL, lfL, lfL_append M xs ys, Bool.and_assoc]
theorem dpL_append : ∀ xs ys : List Th, dpL (xs ++ ys) = max (dpL xs) (dpL ys)
  | [], ys => by simp [dpL]
  | x :: xs, ys => by rw [List.cons_append, dpL, dpL, dpL_append xs ys]; omega
theorem len_bkL : ∀ xs : List Th, xs.length ≤ bkL xs
  | [] => Nat.zero_le _
  | x :: xs => by rw [List.length_cons, bkL]; have := len_bkL xs; omega
/-- a good thing: bounded in all -/
structure Gd (B M D : Nat) (t : Th) : Prop where
  b : bk t ≤ B
  m : lf M t = true
  d : dp t ≤ D
structure GdL (B M D : Nat) (ts : List Th) : Prop where
  b : bkL ts ≤ B
  m : lfL M ts = true
  d : dpL ts ≤ D
mutual
theorem lf_mono {M N : Nat} (h : M ≤ N) : ∀ t : Th, lf M t = true → lf N t = true
  | .non, _ => rfl
  | .bl _, _ => rfl
  | .int i, e => by rw [lf, decide_eq_true_eq] at e ⊢; omega
  | .str x, e => e
  | .lst xs, e => lfL_mono h xs e
  | .tup xs, e => lfL_mono h xs e
  | .dic xs, e => lfL_mono h xs e
theorem lfL_mono {M N : Nat} (h : M ≤ N) : ∀ ts : List Th, lfL M ts = true → lfL N ts = true
  | [], _ => rfl
  | x :: xs, e => by
    rw [lfL, Bool.and_eq_true] at e ⊢
    exact ⟨lf_mono h x e.1, lfL_mono h xs e.2⟩
end
theorem Gd.mono {B M D B' M' D' : Nat} {t : Th} (g : Gd B M D t) (hb : B ≤ B') (hm : M ≤ M') (hd : D ≤ D') : Gd B' M' D' t := ⟨Nat.le_trans g.b hb, lf_mono hm t g.m, Nat.le_trans g.d hd⟩
theorem GdL.mono {B M D B' M' D' : Nat} {t : List Th} (g : GdL B M D t) (hb : B ≤ B') (hm : M ≤ M') (hd : D ≤ D') : GdL B' M' D' t := ⟨Nat.le_trans g.b hb, lfL_mono hm t g.m, Nat.le_trans g.d hd⟩
theorem Gd.tup {B M D : Nat} {ts : List Th} (g : GdL B M D ts) : Gd B M (D + 1) (.tup ts) := ⟨g.b, g.m, Nat.succ_le_succ g.d⟩
theorem Gd.lst {B M D : Nat} {ts : List Th} (g : GdL B M D ts) : Gd B M (D + 1) (.lst ts) := ⟨g.b, g.m, Nat.succ_le_succ g.d⟩
theorem Gd.dic {B M D : Nat} {ts : List Th} (g : GdL B M D ts) : Gd (B + 5) M (D + 2) (.dic ts) := ⟨Nat.add_le_add_right g.b 5, g.m, Nat.add_le_add_right g.d 2⟩
theorem GdL.nil {M D : Nat} : GdL 0 M D [] := ⟨Nat.le_refl _, rfl, Nat.zero_le _⟩
theorem GdL.cons {B C M D : Nat} {t : Th} {ts : List Th} (g : Gd B M D t) (h : GdL C M D ts) : GdL (B + 1 + C) M D (t :: ts) :=
  ⟨by rw [bkL]; have := g.b; have := h.b; omega, by rw [lfL, g.m, h.m]; rfl, by rw [dpL]; have := g.d; have := h.d; omega⟩
theorem GdL.append {B C M D : Nat} {ts us : List Th} (g : GdL B M D ts) (h : GdL C M D us) : GdL (B + C) M D (ts ++ us) :=
  ⟨by rw [bkL_append]; have := g.b; have := h.b; omega, by rw [lfL_append, g.m, h.m]; rfl, by rw [dpL_append]; have := g.d; have := h.d; omega⟩
theorem GdL.all {B M D : Nat} : ∀ {ts : List Th} {n : Nat}, (∀ t ∈ ts, Gd B M D t) → ts.length ≤ n → GdL (n * (B + 1)) M D ts
  | [], n, _, _ => GdL.nil.mono (Nat.zero_le _) (Nat.le_refl _) (Nat.le_refl _)
  | t :: ts, 0, _, h => by simp at h
  | t :: ts, n + 1, g, h => (GdL.cons (g t List.mem_cons_self) (GdL.all (n := n) (fun u hu => g u (List.mem_cons_of_mem _ hu)) (by simpa using h))).mono (by rw [Nat.succ_mul]; omega) (Nat.le_refl _) (Nat.le_refl _)
theorem Gd.int {M : Nat} {i : Int} (h : i.natAbs ≤ M) : Gd 0 M 0 (.int i) := ⟨Nat.le_refl _, by rw [lf]; exact decide_eq_true h, Nat.le_refl _⟩
theorem Gd.non {M : Nat} : Gd 0 M 0 .non := ⟨Nat.le_refl _, rfl, Nat.le_refl _⟩
theorem Gd.bl {M : Nat} {b : Bool} : Gd 0 M 0 (.bl b) := ⟨Nat.le_refl _, rfl, Nat.le_refl _⟩
theorem Gd.str {M : Nat} {x : Str} {B : Nat} (h : x.cps.size ≤ B) (a : (x.cps.toList.all fun c => decide (c < 128)) = true) : Gd B M 0 (.str x) := ⟨h, a, Nat.le_refl _⟩
mutual
theorem short_of : ∀ t : Th, bk t ≤ 1000000 → shortT t = true
  | .non, _ => rfl
  | .bl _, _ => rfl
  | .int _, _ => rfl
  | .str x, h => by rw [shortT]; exact decide_eq_true h
  | .lst _, _ => rfl
  | .dic _, _ => rfl
  | .tup xs, h => by
    have h2 : bkL xs ≤ 1000000 := h
    have h3 := len_bkL xs
    rw [shortT, short_ofL xs h2, Bool.and_true]
    exact decide_eq_true (by omega)
theorem short_ofL : ∀ ts : List Th, bkL ts ≤ 1000000 → shortL ts = true
  | [], _ => rfl
  | x :: xs, h => by
    rw [bkL] at h
    rw [shortL, short_of x (by omega), short_ofL xs (by omega)]
    rfl
end
theorem Gd.short {B M D : Nat} {t : Th} (g : Gd B M D t) (h : B ≤ 1000000) : shortT t = true := short_of t (Nat.le_trans g.b h)
/-! nodes -/
mutual
def nod : Th → Nat
  | .tup xs => nodL xs + 1
  | _ => 1
def nodL : List Th → Nat
  | [] => 0
  | x :: xs => nod x + nodL xs
end
mutual
theorem nod_le : ∀ t : Th, nod t ≤ bk t + 1
  | .tup xs => by rw [nod, bk]; have := nodL_le xs; omega
  | .non => Nat.le_add_left 1 _
  | .bl _ => Nat.le_add_left 1 _
  | .int _ => Nat.le_add_left 1 _
  | .str _ => Nat.le_add_left 1 _
  | .lst _ => Nat.le_add_left 1 _
  | .dic _ => Nat.le_add_left 1 _
theorem nodL_le : ∀ ts : List Th, nodL ts ≤ bkL ts
  | [] => Nat.le_refl _
  | x :: xs => by rw [nodL, bkL]; have := nod_le x; have := nodL_le xs; omega
end
theorem nod_pos : ∀ t : Th, 0 < nod t
  | .tup xs => Nat.succ_pos _
  | .non => Nat.one_pos
  | .bl _ => Nat.one_pos
  | .int _ => Nat.one_pos
  | .str _ => Nat.one_pos
  | .lst _ => Nat.one_pos
  | .dic _ => Nat.one_pos
end KL
end
section
set_option maxHeartbeats 4000000
namespace KL
open PySem PySem.Spec PyProof.Rows L2
/-! ### t * 2 of any tuple -/
theorem mul_empty (l : Addr) (n : Nat) (dd : Option Addr) (sl : Array (Option Value)) (u : Tok) :
    Meets (Builtin.«tuple.__mul__» ⟨[.ref l, .int 2 u], []⟩) (fun _ R s => s.heap.get? l = some { cls := .type "tuple", dict := dd, data := .seq #[] n, slots := sl } ∧ R (.ok (.ret (Value.ref l))) s) :=
  .of_wp fun prog w A R s h => by
    obtain ⟨hp, g, d, tk, os⟩ := s
    obtain ⟨hl, h⟩ := h
    have f1 := AutoSeq1.idx_int
    (wp_walk using wpAny_loadPart' hl); skip
    repeat (first
      | (refine wpAny_ite_false (by decide) ?_; wp_walk using wpAny_loadPart' hl)
      | (refine wpAny_ite_true (by decide) ?_; wp_walk using wpAny_loadPart' hl)); skip
    exact ⟨_, rfl, h⟩
def rRep2 (K : PySem.W.Frag) : R2 := fun x y H Q => ∃ l xs, x = .ref l ∧ y = .int 2 ∧ SqT K H l xs ∧ xs.length ≤ 1000000 ∧ (xs = [] → Q (.ref l) H) ∧ (xs ≠ [] → ∀ p, H p = none → Q (.ref p) (upd H p (.tup (xs ++ xs))))
section
variable {X : Cx}
theorem op_rep2 : OpR X (binaryOp .Mult) (rRep2 X.K) := by
  intro pins s σ H x y v u Q I rx ry h
  obtain ⟨l, xs, rfl, rfl, hT, hz, q0, q1⟩ := h
  cases rx
  obtain ⟨t, rfl⟩ := ry
  obtain ⟨its, r, ⟨⟨cls, dd, data, sl⟩, ho, hc, n, hd⟩, _⟩ := I.tuple hT
  simp only at hc hd
  subst hc hd
  have hle : its.length = xs.length := r.length.symm
  by_cases hx : xs = []
  · subst hx
    cases r
    refine wpAny_binaryOp_repeat_ref (T := "tuple") (U := "int") (by decide) ⟨_, ho, rfl⟩ (fun s' => typeIs_int s' 2 t) noFill_tuple_mul F.fills_int_mul F.slot_int_rmul repeat_tuple F.slot_int_index.lookup ?_
    refine call_meets F.slot_int_rmul (typeIs_int s 2 t) F.entry_int_rmul (F.args_int_rmul_2 _ _) (int_rmul_tuple 2 t l #[] n dd sl) ⟨ho, rfl, ⟨_, ho, rfl⟩, ?_⟩
    exact call_meets F.slot_tuple_mul ⟨_, ho, rfl⟩ F.entry_tuple_mul (F.args_tuple_mul_2 _ _) (mul_empty l n dd sl t) ⟨ho, ⟨.ref l, H, I, rfl, q0 rfl⟩⟩
  · have hi : its.toArray.isEmpty = false := by
      cases its with
      | nil => exact absurd (List.eq_nil_of_length_eq_zero hle.symm) hx
      | cons a b => rfl
    have es : its.toArray.size = xs.length := by rw [List.size_toArray, hle]
    have ef : (List.foldl (fun x1 x2 => x1 ++ x2) #[] (List.replicate (2 : Int).toNat its.toArray)) = (its ++ its).toArray := by
      rw [size_rep]
      show (its ++ (its ++ [])).toArray = (its ++ its).toArray
      rw [List.append_nil]
    have el : (its ++ its).length ≤ sizeLine := by rw [List.length_append, hle, sizeLine_eq]; omega
    have g4 : Builtin.Tuple.tupleTooMany (((its.toArray.size : Nat) : Int) * 2) = false := by
      unfold Builtin.Tuple.tupleTooMany
      rw [es, sizeLine_eq]
      exact decide_eq_false (by omega)
    refine wpAny_binaryOp_repeat_ref (T := "tuple") (U := "int") (by decide) ⟨_, ho, rfl⟩ (fun s' => typeIs_int s' 2 t) noFill_tuple_mul F.fills_int_mul F.slot_int_rmul repeat_tuple F.slot_int_index.lookup ?_
    refine call_meets F.slot_int_rmul (typeIs_int s 2 t) F.entry_int_rmul (F.args_int_rmul_2 _ _) (int_rmul_tuple 2 t l its.toArray n dd sl) ⟨ho, rfl, ⟨_, ho, rfl⟩, ?_⟩
    refine call_meets F.slot_tuple_mul ⟨_, ho, rfl⟩ F.entry_tuple_mul (F.args_tuple_mul_2 _ _) (tuple_mulW l its.toArray n dd sl 2 t (by decide) (by rw [hi]; rfl) (by rw [hi]; rfl) (by rw [es]; omega) g4 (by rw [ef, List.size_toArray]; exact el)) ⟨ho, ?_⟩
    rw [ef]
    refine ⟨.ref s.heap.objs.size, _, I.laid (t' := s.toks) (o := .tup (xs ++ xs)) (fun b ob q => Heap.get?_push_of_some _ q) (Nat.le_refl _) ?_, rfl, q1 hx _ (I.hok.fresh (Nat.le_refl _))⟩
    exact ⟨by rw [List.length_append, sizeLine_eq]; omega, _, Vals.append r r, IsTup.new _ _⟩
end
/-! ### one of a written list -/
theorem pick {α : Type} {xs : List α} {i : Int} (p : α → Prop) (h0 : 0 ≤ i) (h1 : i < (xs.length : Int)) (h : ∀ x ∈ xs, p x) : ∃ x, atI xs i = some x ∧ p x := by
  have e : i = ((i.toNat : Nat) : Int) := by omega
  have hk : i.toNat < xs.length := by omega
  have q := atI_nat (List.getElem?_eq_getElem hk)
  rw [← e] at q
  exact ⟨xs[i.toNat], q, h _ (List.getElem_mem hk)⟩
theorem WellAt.trk {W c : Addr} {H : Hp} (h : WellAt W c H) : Trk H W := by obtain ⟨_, _, _, _, e, _⟩ := h; exact .of e
theorem WellAt.ne {W c : Addr} {H : Hp} (h : WellAt W c H) : c ≠ W := by obtain ⟨_, _, _, _, e, f, _⟩ := h; exact cells_ne e f
theorem WellAt.same {W c : Addr} {H H' : Hp} (h : WellAt W c H) (s : Same H H') : WellAt W c H' := by
  obtain ⟨ns, n, v, g, e, f, r⟩ := h; exact ⟨ns, n, v, g, s _ _ e, s _ _ f, r⟩
theorem WellAt.new {W c p : Addr} {H H0 : Hp} (h : WellAt W c H) (h0 : WellAt W c H0) (hp : H0 p = none) (o : HO) : WellAt W c (upd H p o) := by
  obtain ⟨ns, n, v, g, e, f, r⟩ := h
  obtain ⟨_, _, _, _, e0, f0, _⟩ := h0
  exact ⟨ns, n, v, g, by rw [upd_ne (ne_of_none e0 hp)]; exact e, by rw [upd_ne (ne_of_none f0 hp)]; exact f, r⟩
/-- what was tracked ahead is tracked -/
theorem Trk.well {W c : Addr} {H H' : Hp} (s : SB (At1 W) H H') (w : WellAt W c H') {a : Addr} (h : Trk H a) : Trk H' a := by
  by_cases e : a = W
  · rw [e]; exact w.trk
  · cases q : H a with
    | none => exact absurd q h
    | some o => exact .of (s a o e q)
/-- the way of a new thing to a later heap -/
theorem At.later {W c : Addr} {Z Z' : Zone} {H H' : Hp} {t : Th} {v : V} (h : At Z H t v) (s : SB (At1 W) H H') (z : Z W) (zz : ∀ a, Z' a → Z a) : At Z' H' t v :=
  (h.sb (s.mono fun b e => by rw [show b = W from e]; exact z)).less zz
/-- a list of new things made over a range -/
theorem lc_new {W c : Addr} {lo : Int} {n : Nat} {H : Hp} {G : Th → Prop} {i : Nat} {own : List Nat} {te : TE} {σ : L2.St} {Q : Addr → Hp → Prop} (hW : WellAt W c H) (hn : n ≤ 1000000) (hw : ∀ x, wipe ((wipe σ own).set i (some x)) own = wipe σ own)
    (hs : ∀ j H2, j < n → SB (At1 W) H H2 → WellAt W c H2 → ∀ R : VK, (∀ v t H3, SB (At1 W) H2 H3 → WellAt W c H3 → At (Trk H2) H3 t v → G t → R v H3) → te ((wipe σ own).set i (some (.int (lo + (j : Nat))))) H2 R)
    (hd : ∀ D H' vs ts, SB (At1 W) H H' → WellAt W c H' → H D = none → H' D = some (.lst vs) → AtAll (fun a => a = D ∨ Trk H a) H' ts vs → ts.length = n → (∀ t ∈ ts, G t) → Q D H') :
    ∀ D, H D = none → ∃ Y : Nat → Nat → Hp → Prop, (∃ m, Y 0 m (upd H D (.lst []))) ∧ ∀ i' m H, Y i' m H →
      ((Itr lo n).stop i' H ∧ Q D H) ∨ ((Itr lo n).go i' H ∧ ∃ Nx : Hp → Prop, (∀ H', Nx H' → ∃ m', m' < m ∧ Y (i' + 1) m' H') ∧ ∀ x H', (Itr lo n).yld i' H x H' → gName i x (wipe σ own) H' fun σ2 H2 => wipe σ2 own = wipe σ own ∧ tYes σ2 H2 fun b H3 =>
        if b = true then te σ2 H3 fun y H4 => ∃ acc, H4 D = some (.lst acc) ∧ acc.length < sizeLine ∧ Nx (upd H4 D (.lst (acc ++ [y]))) else Nx H3) := by
  intro D hD
  have nDW : D ≠ W := fun e => by rw [e] at hD; exact hW.trk hD
  refine lc_range (fun j H' => SB (At1 W) H H' ∧ WellAt W c H' ∧ ∃ vs ts, H' D = some (.lst vs) ∧ AtAll (fun a => a = D ∨ Trk H a) H' ts vs ∧ ts.length = j ∧ ∀ t ∈ ts, G t)
    ⟨.new hD _, hW.new hW hD _, [], [], upd_same, .nil, rfl, fun t h => nomatch h⟩ (fun j H' hj p => ?_) (fun H' p => ?_)
  · obtain ⟨s1, w1, vs, ts, e1, a1, l1, g1⟩ := p
    refine ⟨hw _, iteT (B := False) (hs j H' hj s1 w1 _ fun v t H3 s3 w3 at3 gt => ?_)⟩
    have e3 : H3 D = some (.lst vs) := s3 D _ nDW e1
    have zz : ∀ a, (a = D ∨ Trk H a) → Trk H' a := fun a h => by
      rcases h with rfl | h
      · exact .of e1
      · exact .well s1 w1 h
    refine ⟨vs, e3, by rw [a1.len, l1, sizeLine_eq]; omega, (s1.trans s3).upd_new hD _, w3.new hW hD _, vs ++ [v], ts ++ [t], upd_same, ?_, by rw [List.length_append, l1]; rfl, fun u hu => ?_⟩
    · have sD : SB (fun a => a = D ∨ Trk H a) H3 (upd H3 D (.lst (vs ++ [v]))) := .self (Z := fun a => a = D ∨ Trk H a) (.inl rfl) _
      refine AtAll.append ((a1.sb (s3.mono fun b e => .inr (by rw [show b = W from e]; exact hW.trk))).sb sD) (.cons ((at3.less zz).sb sD) .nil)
    · rcases List.mem_append.mp hu with hu | hu
      · exact g1 u hu
      · rw [List.mem_singleton.mp hu]; exact gt
  · obtain ⟨s1, w1, vs, ts, e1, a1, l1, g1⟩ := p
    exact hd D H' vs ts s1 w1 hD e1 a1 l1 g1
end KL
end
section
namespace KL
open PySem PySem.Spec PyProof.Rows L2
def anyB : Nat → Nat
  | 0 => 9
  | n + 1 => 3 * (anyB n + 1) + 5
theorem anyB_ge : ∀ d, 9 ≤ anyB d
  | 0 => Nat.le_refl _
  | d + 1 => by rw [anyB]; have := anyB_ge d; omega
/-- a new thing, of depth d -/
def spAny (n : Nat) : Sp := fun vs H Q _ => ∃ (W c : Addr) (d : Nat), vs = [.ref W, .int (d : Int)] ∧ WellAt W c H ∧ d < n ∧ ∀ v t H', SB (At1 W) H H' → WellAt W c H' → At (Trk H) H' t v → Gd (anyB d) (10 ^ 29) (2 * d) t → Q v H'
theorem decI {a b : Int} {A : Prop} (h : decide (V.int a = V.int b) = true) : a = b := by
  have e := of_decide_eq_true h
  injection e
theorem decI0 {a b : Int} (h : decide (V.int a = V.int b) = false) : a ≠ b := fun e => of_decide_eq_false h (congrArg V.int e)
theorem not_trk {W c : Addr} {H H' : Hp} {p : Addr} (s : SB (At1 W) H H') (w : WellAt W c H') (h : H' p = none) : ¬ Trk H p := fun t => (Trk.well s w t) h
section
variable {P : Program} {w : World} {K : PySem.W.Frag} {mg : Str → Option Value} {base : Heap} {k : Nat}
/-- a def that nobody may call yet -/
theorem Def.none {x : Str} {st : Stmt} {ps : List Str} {sp : Sp} {CX : CXT} (d : Def K mg x st ps) (no : ∀ vs H Q E, ¬ sp vs H Q E) : Cal P w K mg base CX k x ps sp := by
  obtain ⟨f, fd, F, m, b⟩ := d.ex
  exact ⟨f, fd, ⟨fun vs H Q E h => absurd h (no vs H Q E), fun A outer s H args us vs Q E _ _ _ _ h => absurd h (no vs H Q E)⟩, m, F.kp, b⟩
/-- how many nodes a thing has -/
def spNodes (n : Nat) : Sp := fun vs H Q _ => ∃ Z t v, vs = [v] ∧ At Z H t v ∧ dp t < n ∧ bk t ≤ 1000000 ∧ ∀ H', Same H H' → Q (.int (nod t : Nat)) H'
theorem dpL_mem : ∀ {xs : List Th} {t : Th}, t ∈ xs → dp t ≤ dpL xs
  | x :: xs, t, h => by
    rw [dpL]
    rcases List.mem_cons.mp h with rfl | h
    · omega
    · have := dpL_mem h; omega
theorem bkL_mem : ∀ {xs : List Th} {t : Th}, t ∈ xs → bk t + 1 ≤ bkL xs
  | x :: xs, t, h => by
    rw [bkL]
    rcases List.mem_cons.mp h with rfl | h
    · omega
    · have := bkL_mem h; omega
theorem nodL_sum : ∀ xs : List Th, ((xs.map fun t => ((nod t : Nat) : Int))).sum = (nodL xs : Nat)
  | [] => rfl
  | x :: xs => by
    rw [List.map_cons, List.sum_cons, nodL_sum xs, nodL]
    omega
end
end KL
end
section
namespace KL
open PySem PySem.Spec PyProof.Rows L2
/-! ### errors without a word -/
section
variable {X : Cx} {C : Addr} {bmB : List Value} {B newId initId : String} {x : Str} {p pos : Pos}
theorem pmk_bare (F : ExcBaseFacts B newId initId bmB) (q : PySem.W.excIn X.K C bmB newId = true) (gC : X.mg x = some (.ref C)) (kC : PySem.W.keepIn X.K (.ref C) = true) (r : Raises X (.ref C)) (hg : Gl X x)
    (dbg : (x == ("__debug__" : Str)) = false := by decide) : PMk X (.Call (.Name x p) [] [] pos) (fun _ H Q => Q (.ref C) none H) := by
  intro pins s σ H Q J h
  refine wpAny_Call_Name_kw (ld_glob J hg gC ?_ dbg)
  refine PySem.W.callWith_K0 J.kIn kC ?_
  obtain ⟨_, _, _, _, _, _, _, _, _, _, _, _, _, _, _, _, _, g1, g2, g3, g4⟩ := exc_obj J.kIn q
  refine wpAny_call_exc_subT F g4 g1 g2 g3 (fun h2 e2 m2 => ?_) (Nat.zero_le _)
  exact mk_of J m2 r h (J.hok.gone m2.new)
end
/-- the error class at C, by the module's name x -/
structure Er (K : PySem.W.Frag) (mg : Str → Option Value) (x : Str) (C : Addr) : Prop where
  g : mg x = some (.ref C)
  x : PySem.W.excIn K C [.type "ValueError", .type "Exception", .type "BaseException", .type "object"] "ValueError.__new__" = true
  k : PySem.W.keepIn K (.ref C) = true
  b : PySem.W.subIn K (.ref C) (.type "BaseException") = some true
  t : PySem.W.typeIn K (.ref C) = some (.type "type")
  e : PySem.W.exmOne K (.ref C) (.ref C) = some true
section
variable {P : Program} {w : World} {K : PySem.W.Frag} {mg : Str → Option Value} {base : Heap} {k : Nat}
/-- THE RULE for a def that may raise -/
theorem Def.okX {x : Str} {st : Stmt} {N ps : List Str} {sp : Sp} (d : Def K mg x st ps) (S : FnScope N ps (defScope st)) (len : ∀ vs H Q E, sp vs H Q E → vs.length = ps.length)
    (body : ∀ (f : Addr) (cdv : Value) (A : Around) (outer : List Env) (s : Shared) (H : Hp) (vs : List V) (Q : VK) (E : XK), Room k (A.deeper (envOfC x (defScope st) s.heap.objs.size f cdv)) → sp vs H Q E →
      ∃ t, PSs (cxOf (L2.CX P w) P w K mg base N x (defScope st) f cdv A outer s H E) (defBody st) t ∧ t { nx := fun _ H' => Q .non H', rt := Q } (start N vs) H) : Cal P w K mg base (L2.CX P w) (k + 1) x ps sp := by
  obtain ⟨f, fd, F, m, b⟩ := d.ex
  exact ⟨f, fd, F.okX S len (body f), m, F.kp, b⟩
end
section
variable {X : Cx} {k : Nat} {x : Str} {ps : List Str} {sp : Sp} {e : Expr} {es : List Expr} {t : TA} {p pos : Pos} {W : WX}
/-- a call of a def that may raise, within a try -/
theorem pe_calS (C : Cal X.prog X.w X.K X.mg X.base (L2.CX X.prog X.w) k x ps sp) (hr : Room k X.A) (hg : Gl X x) (tk : Takes X W) (ha : PA X (e :: es) t) (hdb : (x == ("__debug__" : Str)) = false := by decide)
    (he : starEach (e :: es) X.env = (false, eval e X.env) :: starEach es X.env := by rfl) (hpl : (backTo pos (starEach es X.env)).any (·.1) = false := by rfl) :
    PE X (.Call (.Name x p) (e :: es) [] pos) (tCallS sp (WE W) t) :=
  let ⟨_, _, F, m, kp, b⟩ := C.ex
  pe_callS F hr hg m kp b (fun σ => passAt tk σ) ha hdb he hpl
end
def spText (C : Addr) : Sp := fun vs H Q E => ∃ Z u v e d, vs = [u, v] ∧ At Z H e u ∧ At Z H d v ∧ shortT e = true ∧ shortT d = true ∧ (inn 1 8 e = true → ∀ H', Same H H' → Q (.bl (textB (num e) d)) H') ∧ (inn 1 8 e = false → ∀ H', Same H H' → E (.ref C) none H')
section
variable {P : Program} {w : World} {K : PySem.W.Frag} {mg : Str → Option Value} {base : Heap} {k : Nat}
def bit (c : Nat) : Bool := c == 48 || c == 49
def bitsB : Th → Bool
  | .str x => x.cps.toList.all bit
  | _ => false
theorem isS_str {d : Th} (h : isS d = true) : ∃ x, d = .str x := by cases d <;> first | exact ⟨_, rfl⟩ | cases h
theorem eq48 (c : Nat) : decide ((⟨#[c]⟩ : Str) = "0") = (c == 48) := by
  have e : ("0" : Str) = ⟨#[48]⟩ := by decide
  rw [e]
  by_cases h : c = 48
  · subst h; decide
  · rw [decide_eq_false (fun q => h (by injection q with q; injection q with q; injection q)), beq_eq_false_iff_ne.mpr h]
theorem eq49 (c : Nat) : decide ((⟨#[c]⟩ : Str) = "1") = (c == 49) := by
  have e : ("1" : Str) = ⟨#[49]⟩ := by decide
  rw [e]
  by_cases h : c = 49
  · subst h; decide
  · rw [decide_eq_false (fun q => h (by injection q with q; injection q with q; injection q)), beq_eq_false_iff_ne.mpr h]
theorem strV (x y : Str) : decide (V.str x = V.str y) = decide (x = y) := decide_eq_decide.mpr ⟨fun e => by injection e, fun e => congrArg V.str e⟩
theorem inV_bit (c : Nat) : inV (.str ⟨#[c]⟩) [.str "0", .str "1"] = bit c := by
  have h0 := eq48 c
  have h1 := eq49 c
  have f : ∀ a b : Str, (a == b) = decide (b = a) := fun a b => by
    rw [show (a == b) = decide (a = b) from rfl]
    exact decide_eq_decide.mpr ⟨Eq.symm, Eq.symm⟩
  show ((("0" : Str) == ⟨#[c]⟩) || ((("1" : Str) == ⟨#[c]⟩) || false)) = bit c
  rw [f, f, h0, h1, Bool.or_false]
  rfl
theorem short_str {x : Str} (h : shortT (.str x) = true) : x.cps.size ≤ 1000000 := by
  rw [shortT, decide_eq_true_eq] at h
  exact h
def longB (n : Int) : Th → Bool
  | .tup xs => decide ((xs.length : Int) = n)
  | _ => false
theorem long2 {d : Th} (h : longB 2 d = true) : ∃ a b, d = .tup [a, b] := isPair_tup (by
  cases d with
  | tup xs =>
    rw [longB, decide_eq_true_eq] at h
    rw [isPair, decide_eq_true_eq]
    omega
  | _ => cases h)
theorem notlong2 {d : Th} (h : longB 2 d = false) : isPair d = false := by
  cases d with
  | tup xs =>
    rw [longB, decide_eq_false_iff_not] at h
    rw [isPair, decide_eq_false_iff_not]
    omega
  | _ => rfl
theorem stepB_not {n : Int} {d : Th} (h : isPair d = false) : stepB n d = false := by
  cases d with
  | tup xs => match xs, h with
    | [], _ => rfl
    | [_], _ => rfl
    | [_, _], h => cases h
    | _ :: _ :: _ :: _, _ => rfl
  | _ => rfl
def snd : Th → Th
  | .tup [_, b] => b
  | _ => .non
theorem rowB_long {z n : Int} {d : Th} (h : (!(longB 2 d && longB z (snd d))) = true) : rowB z n d = false := by
  have h' := not_true h
  cases e : longB 2 d with
  | false => exact rowB_not (notlong2 e)
  | true =>
    obtain ⟨a, b, rfl⟩ := long2 e
    rw [e, Bool.true_and] at h'
    exact rowB_len (by
      rw [show snd (.tup [a, b]) = b from rfl] at h'
      cases b with
      | tup ss => rw [longB] at h'; rw [tlen, h']; rfl
      | _ => rfl)
theorem longB_tup {z : Int} {d : Th} (h : longB z d = true) : ∃ ss, d = .tup ss ∧ (ss.length : Int) = z := by
  cases d with
  | tup ss => rw [longB, decide_eq_true_eq] at h; exact ⟨ss, rfl, h⟩
  | _ => cases h
def fstT : Th → Th
  | .tup [a, _] => a
  | _ => .non
theorem machB_head {d : Th} (h : (!(longB 2 d && inn 1 8 (fstT d) && isT (snd d))) = true) : machB d = false := by
  have h' := not_true h
  cases e : longB 2 d with
  | false => exact machB_not (notlong2 e)
  | true =>
    obtain ⟨a, b, rfl⟩ := long2 e
    rw [e, Bool.true_and] at h'
    exact machB_size (by rw [show (inn 1 8 a && isT b) = false from h']; rfl)
def spTF : Sp := fun vs H Q _ => ∃ Z v d z, vs = [.int z, v] ∧ At Z H d v ∧ shortT d = true ∧ ∀ H', Same H H' → Q (.bl (textB z d)) H'
end
end KL
end
section
set_option maxHeartbeats 1000000
namespace KL
open PySem PySem.Spec PyProof.Rows L2
/-! ### tuples of things cut, put together, doubled -/
theorem bkL_take : ∀ (n : Nat) (xs : List Th), bkL (xs.take n) ≤ bkL xs
  | 0, xs => by rw [List.take_zero]; exact Nat.zero_le _
  | n + 1, [] => Nat.le_refl _
  | n + 1, x :: xs => by rw [List.take_succ_cons, bkL, bkL]; have := bkL_take n xs; omega
theorem bkL_drop : ∀ (n : Nat) (xs : List Th), bkL (xs.drop n) ≤ bkL xs
  | 0, xs => Nat.le_refl _
  | n + 1, [] => Nat.le_refl _
  | n + 1, x :: xs => by rw [List.drop_succ_cons, bkL]; have := bkL_drop n xs; omega
theorem lfL_take {M : Nat} : ∀ (n : Nat) (xs : List Th), lfL M xs = true → lfL M (xs.take n) = true
  | 0, xs, _ => by rw [List.take_zero]; rfl
  | n + 1, [], h => h
  | n + 1, x :: xs, h => by
    rw [lfL, Bool.and_eq_true] at h
    rw [List.take_succ_cons, lfL, h.1, lfL_take n xs h.2]
    rfl
theorem lfL_drop {M : Nat} : ∀ (n : Nat) (xs : List Th), lfL M xs = true → lfL M (xs.drop n) = true
  | 0, xs, h => h
  | n + 1, [], h => h
  | n + 1, x :: xs, h => by
    rw [lfL, Bool.and_eq_true] at h
    exact lfL_drop n xs h.2
theorem dpL_take : ∀ (n : Nat) (xs : List Th), dpL (xs.take n) ≤ dpL xs
  | 0, xs => by rw [List.take_zero]; exact Nat.zero_le _
  | n + 1, [] => Nat.le_refl _
  | n + 1, x :: xs => by rw [List.take_succ_cons, dpL, dpL]; have := dpL_take n xs; omega
theorem dpL_drop : ∀ (n : Nat) (xs : List Th), dpL (xs.drop n) ≤ dpL xs
  | 0, xs => Nat.le_refl _
  | n + 1, [] => Nat.le_refl _
  | n + 1, x :: xs => by rw [List.drop_succ_cons, dpL]; have := dpL_drop n xs; omega
theorem GdL.take {B M D : Nat} {ts : List Th} (g : GdL B M D ts) (n : Nat) : GdL B M D (ts.take n) := ⟨Nat.le_trans (bkL_take n ts) g.b, lfL_take n ts g.m, Nat.le_trans (dpL_take n ts) g.d⟩
theorem GdL.drop {B M D : Nat} {ts : List Th} (g : GdL B M D ts) (n : Nat) : GdL B M D (ts.drop n) := ⟨Nat.le_trans (bkL_drop n ts) g.b, lfL_drop n ts g.m, Nat.le_trans (dpL_drop n ts) g.d⟩
theorem Gd.items {B M D : Nat} {ts : List Th} (g : Gd B M D (.tup ts)) : GdL B M (D - 1) ts := ⟨g.b, g.m, by have := g.d; rw [dp] at this; omega⟩
theorem lfL_mem {M : Nat} : ∀ {xs : List Th} {t : Th}, t ∈ xs → lfL M xs = true → lf M t = true
  | x :: xs, t, h, e => by
    rw [lfL, Bool.and_eq_true] at e
    rcases List.mem_cons.mp h with rfl | h
    · exact e.1
    · exact lfL_mem h e.2
theorem GdL.item {B M D : Nat} {ts : List Th} {t : Th} (g : GdL B M D ts) (h : t ∈ ts) : Gd B M D t := ⟨by have := bkL_mem h; have := g.b; omega, lfL_mem h g.m, Nat.le_trans (dpL_mem h) g.d⟩
theorem ne_new {W p : Addr} {H : Hp} (w : Trk H W) (h : H p = none) : p ≠ W := fun e => w (e ▸ h)
def rSlG (K : PySem.W.Frag) : V → Option Int → Option Int → Hp → VK → Prop := fun x lo hi H Q => ∃ W ds B M D, At (At1 W) H (.tup ds) x ∧ Trk H W ∧ GdL B M D ds ∧ ∀ v es H', Same H H' → At (At1 W) H' (.tup es) v → GdL B M D es → Q v H'
def rCatG (K : PySem.W.Frag) : R2 := fun x y H Q => ∃ W ds es B C M D, At (At1 W) H (.tup ds) x ∧ At (At1 W) H (.tup es) y ∧ Trk H W ∧ GdL B M D ds ∧ GdL C M D es ∧ B + C ≤ 1000000 ∧ ∀ v us H', Same H H' → At (At1 W) H' (.tup us) v → GdL (B + C) M D us → Q v H'
def rRepG (K : PySem.W.Frag) : R2 := fun x y H Q => ∃ W ds B M D, y = .int 2 ∧ At (At1 W) H (.tup ds) x ∧ Trk H W ∧ GdL B M D ds ∧ B ≤ 1000000 ∧ ∀ v us H', Same H H' → At (At1 W) H' (.tup us) v → GdL (B + B) M D us → Q v H'
section
variable {X : Cx}
theorem sl_thing : SlR X (rSlG X.K) := by
  intro pins s σ H x v vl vu lo hi sl Q I rx hs pl pu h
  refine sl_tupA pins s σ H x v vl vu lo hi sl Q I rx hs pl pu ?_
  obtain ⟨W, ds, B, M, D, h, hW, g, q⟩ := h
  obtain ⟨a, vs, rfl, na, e, ha⟩ := id h
  refine ⟨a, vs, rfl, .of e, fun _ => q _ ds H (Same.refl H) h g, fun _ p hp => ?_⟩
  have sp := same_new hp (.tup (cutV vs lo hi))
  exact q _ _ _ sp ⟨p, _, rfl, ne_new hW hp, upd_same, ((ha.drop _).take _).same sp⟩ ((g.drop _).take _)
theorem op_catG : OpR X (binaryOp .Add) (rCatG X.K) := by
  intro pins s σ H x y v u Q I rx ry h
  refine op_catA pins s σ H x y v u Q I rx ry ?_
  obtain ⟨W, ds, es, B, C, M, D, h1, h2, hW, g1, g2, hz, q⟩ := h
  obtain ⟨a, vs, rfl, na, e1, a1⟩ := id h1
  obtain ⟨b, us, rfl, nb, e2, a2⟩ := id h2
  have l1 := len_bkL ds
  have l2 := len_bkL es
  have b1 := g1.b
  have b2 := g2.b
  refine ⟨a, b, vs, us, rfl, rfl, .of e1, .of e2, by rw [a1.len, a2.len, sizeLine_eq]; omega, fun z => ?_, fun _ z => ?_, fun _ _ p hp => ?_⟩
  · exact q _ es H (Same.refl H) h2 (g2.mono (Nat.le_add_left _ _) (Nat.le_refl _) (Nat.le_refl _))
  · exact q _ ds H (Same.refl H) h1 (g1.mono (Nat.le_add_right _ _) (Nat.le_refl _) (Nat.le_refl _))
  · have sp := same_new hp (.tup (vs ++ us))
    exact q _ (ds ++ es) _ sp ⟨p, _, rfl, ne_new hW hp, upd_same, (a1.append a2).same sp⟩ (g1.append g2)
theorem op_repG : OpR X (binaryOp .Mult) (rRepG X.K) := by
  intro pins s σ H x y v u Q I rx ry h
  refine op_rep2 pins s σ H x y v u Q I rx ry ?_
  obtain ⟨W, ds, B, M, D, rfl, h1, hW, g1, hz, q⟩ := h
  obtain ⟨a, vs, rfl, na, e1, a1⟩ := id h1
  have l1 := len_bkL ds
  have b1 := g1.b
  refine ⟨a, vs, rfl, rfl, .of e1, by rw [a1.len]; omega, fun z => ?_, fun _ p hp => ?_⟩
  · exact q _ ds H (Same.refl H) h1 (g1.mono (Nat.le_add_left _ _) (Nat.le_refl _) (Nat.le_refl _))
  · have sp := same_new hp (.tup (vs ++ vs))
    exact q _ (ds ++ ds) _ sp ⟨p, _, rfl, ne_new hW hp, upd_same, (a1.append a1).same sp⟩ (g1.append g1)
end
/-! ### texts -/
theorem asc_app {x y : Str} (hx : (x.cps.toList.all fun c => decide (c < 128)) = true) (hy : (y.cps.toList.all fun c => decide (c < 128)) = true) : ((x ++ y).cps.toList.all fun c => decide (c < 128)) = true := by
  show ((x.cps ++ y.cps).toList.all fun c => decide (c < 128)) = true
  rw [Array.toList_append, List.all_append, hx, hy]
  rfl
theorem size_app (x y : Str) : (x ++ y).cps.size = x.cps.size + y.cps.size := Array.size_append
theorem asc_cut {x : Str} (lo hi : Option Int) (hx : (x.cps.toList.all fun c => decide (c < 128)) = true) : ((cutS x lo hi).cps.toList.all fun c => decide (c < 128)) = true := by
  unfold cutS
  rw [List.all_eq_true] at hx ⊢
  intro c hc
  exact hx c (List.mem_of_mem_drop (List.mem_of_mem_take (by simpa using hc)))
theorem size_cut (x : Str) (lo hi : Option Int) : (cutS x lo hi).cps.size ≤ x.cps.size := by
  unfold cutS
  rw [List.size_toArray, List.length_take, List.length_drop, Array.length_toList]
  omega
/-- what a changed thing is -/
def spChanged : Sp := fun vs H Q _ => ∃ (W c : Addr) (t : Th) (v : V) (B M D : Nat), vs = [v, .ref W] ∧ WellAt W c H ∧ At (At1 W) H t v ∧ Gd B M D t ∧ B ≤ 100000 ∧ 10 ^ 29 ≤ M ∧
  ∀ v' t' H', SB (At1 W) H H' → WellAt W c H' → At (At1 W) H' t' v' → Gd (2 * B + 40) (M + 1) (D + 3) t' → Q v' H'
theorem _root_.L2.Same.trk {H H' : Hp} (s : Same H H') {a : Addr} (h : Trk H a) : Trk H' a := Trk.same s h
section
variable {P : Program} {w : World} {K : PySem.W.Frag} {mg : Str → Option Value} {base : Heap} {k : Nat}
theorem At.tup2 {W p : Addr} {H : Hp} {a b : Th} {u v : V} (n : p ≠ W) (e : H p = some (.tup [u, v])) (ha : At (At1 W) H a u) (hb : At (At1 W) H b v) : At (At1 W) H (.tup [a, b]) (.ref p) := ⟨p, _, rfl, n, e, .cons ha (.cons hb .nil)⟩
theorem At.tup1 {W p : Addr} {H : Hp} {a : Th} {u : V} (n : p ≠ W) (e : H p = some (.tup [u])) (ha : At (At1 W) H a u) : At (At1 W) H (.tup [a]) (.ref p) := ⟨p, _, rfl, n, e, .cons ha .nil⟩
theorem At.tup0 {W p : Addr} {H : Hp} (n : p ≠ W) (e : H p = some (.tup [])) : At (At1 W) H (.tup []) (.ref p) := ⟨p, _, rfl, n, e, .nil⟩
theorem Gd.weak {B M D B' M' D' : Nat} {t : Th} (g : Gd B M D t) (h : B ≤ B' ∧ M ≤ M' ∧ D ≤ D') : Gd B' M' D' t := g.mono h.1 h.2.1 h.2.2
end
end KL
end
section
set_option maxHeartbeats 1000000
namespace KL
open PySem PySem.Spec PyProof.Rows L2
def spB (n B : Nat) : Nat := (2 * n + 2) * B + 40 + n
theorem spB_succ (n B : Nat) : B + (spB n B + 1 + 0) + B = spB (n + 1) B := by
  unfold spB
  have e : (2 * (n + 1) + 2) * B = (2 * n + 2) * B + B + B := by
    rw [show 2 * (n + 1) + 2 = (2 * n + 2) + 1 + 1 by omega, Nat.add_mul, Nat.add_mul, Nat.one_mul]
  omega
theorem spB_base (n B : Nat) : 2 * B + 40 ≤ spB n B := by
  unfold spB
  have : 2 * B ≤ (2 * n + 2) * B := Nat.mul_le_mul_right _ (by omega)
  omega
theorem nod_two {t : Th} (h : 1 < nod t) : ∃ xs, t = .tup xs := by
  cases t <;> first | exact ⟨_, rfl⟩ | (rw [nod] at h <;> first | omega | (intro xs e; cases e))
def spSpoilt (N : Nat) : Sp := fun vs H Q _ => ∃ (W c : Addr) (t : Th) (v : V) (a : Int) (B M D n : Nat), vs = [v, .int a, .ref W] ∧ n ≤ N ∧ dp t < n ∧ WellAt W c H ∧ At (At1 W) H t v ∧ Gd B M D t ∧ 0 ≤ a ∧ a < (nod t : Int) ∧ B ≤ 100000 ∧ spB n B ≤ 1000000 ∧ 10 ^ 29 ≤ M ∧
  ∀ v' t' H', SB (At1 W) H H' → WellAt W c H' → At (At1 W) H' t' v' → Gd (spB n B) (M + 1) (D + 3) t' → Q v' H'
section
variable {P : Program} {w : World} {K : PySem.W.Frag} {mg : Str → Option Value} {base : Heap} {k : Nat}
end
end KL
end
section
set_option maxHeartbeats 1000000
namespace KL
open PySem PySem.Spec PyProof.Rows L2
def spMore : Sp := fun vs H Q _ => ∃ (W c : Addr), vs = [.ref W] ∧ WellAt W c H ∧ ∀ (r : Int) H', 0 ≤ r → r ≤ 60 → SB (At1 W) H H' → WellAt W c H' → Q (.int r) H'
def spStep : Sp := fun vs H Q _ => ∃ (W c : Addr) (s l : Int), vs = [.ref W, .int s, .int l] ∧ WellAt W c H ∧ 1 ≤ s ∧ s ≤ 30 ∧ ∀ v t H', SB (At1 W) H H' → WellAt W c H' → At (Trk H) H' t v → (Gd 2 60 1 t ∧ stepO s t = true) → Q v H'
def spEnd : Sp := fun vs H Q _ => ∃ (W c : Addr) (l : Int), vs = [.ref W, .int l] ∧ WellAt W c H ∧ ∀ v t H', SB (At1 W) H H' → WellAt W c H' → (∀ Z, At Z H' t v) → (Gd 0 60 0 t ∧ (isNon t || inn 1 60 t) = true) → Q v H'
def spMach : Sp := fun vs H Q _ => ∃ (W c : Addr), vs = [.ref W] ∧ WellAt W c H ∧ ∀ v t H', SB (At1 W) H H' → WellAt W c H' → At (Trk H) H' t v → (Gd 1000 60 5 t ∧ machB t = true) → Q v H'
section
variable {P : Program} {w : World} {K : PySem.W.Frag} {mg : Str → Option Value} {base : Heap} {k : Nat}
theorem flag_ix (k : Bool) : 0 ≤ (if k = true then (1 : Int) else 0) ∧ (if k = true then (1 : Int) else 0) < 2 := by cases k <;> decide
end
end KL
end
section
set_option maxHeartbeats 1000000
namespace KL
open PySem PySem.Spec PyProof.Rows L2
/-! ### machines read -/
def stepsOf : Th → List Th
  | .tup [_, .tup ss] => ss
  | _ => []
def endOf : Th → Th
  | .tup [e, _] => e
  | _ => .non
def stepAt (rows : List Th) (s l : Nat) : Th := ((stepsOf ((rows[s]?).getD .non))[l]?).getD .non
/-- from the state s, with m so far: what all letters take, and the state behind them, none where a step lacks -/
def rdT (rows : List Th) : Nat → Int → List Th → Int × Option Nat
  | s, m, [] => (m, some s)
  | s, m, l :: ls => match stepAt rows s (num l).toNat with
    | .tup [.int d, .int s'] => rdT rows s'.toNat (m + d) ls
    | _ => (m, none)
def lastT (rows : List Th) : Int × Option Nat → Option Int
  | (m, some s) => match endOf ((rows[s]?).getD .non) with
    | .int e => some (m + e)
    | _ => none
  | (_, none) => none
def lenT (rows ls : List Th) : Option Int := lastT rows (rdT rows 0 0 ls)
def optV : Option Int → V
  | some i => .int i
  | none => .non
def optS : Option Nat → V
  | some i => .int (i : Nat)
  | none => .non
structure MOk (z : Int) (rows : List Th) : Prop where
  z1 : 1 ≤ z
  z8 : z ≤ 8
  n1 : 1 ≤ rows.length
  n30 : rows.length ≤ 30
  r : ∀ r ∈ rows, rowB z (rows.length : Int) r = true
theorem machB_ok {t : Th} (h : machB t = true) : ∃ z rows, t = .tup [.int z, .tup rows] ∧ MOk z rows := by
  cases t with
  | tup xs =>
    match xs, h with
    | [a, .tup rows], h =>
      rw [machB, Bool.and_eq_true, Bool.and_eq_true, Bool.and_eq_true, decide_eq_true_eq, decide_eq_true_eq, List.all_eq_true] at h
      obtain ⟨⟨⟨h1, h2⟩, h3⟩, h4⟩ := h
      obtain ⟨z, rfl, z1, z8⟩ := inn_int h1
      exact ⟨z, rows, rfl, z1, z8, h2, h3, h4⟩
  | _ => cases h
theorem MOk.mach {z : Int} {rows : List Th} (m : MOk z rows) : machB (.tup [.int z, .tup rows]) = true := by
  rw [machB, Bool.and_eq_true, Bool.and_eq_true, Bool.and_eq_true, decide_eq_true_eq, decide_eq_true_eq, List.all_eq_true]
  exact ⟨⟨⟨by rw [inn, decide_eq_true m.z1, decide_eq_true m.z8]; rfl, m.n1⟩, m.n30⟩, m.r⟩
/-- what a step is -/
def StepIs (n : Int) (st : Th) : Prop := st = .non ∨ ∃ m s, st = .tup [.int m, .int s] ∧ 0 ≤ m ∧ m ≤ 60 ∧ 0 ≤ s ∧ s < n
theorem stepO_is {n : Int} {st : Th} (h : stepO n st = true) : StepIs n st := by
  cases st with
  | non => exact .inl rfl
  | tup xs =>
    match xs, h with
    | [a, b], h =>
      have h' : (inn 0 60 a && inn 0 (n - 1) b) = true := h
      rw [Bool.and_eq_true] at h'
      obtain ⟨m, rfl, m0, m1⟩ := inn_int h'.1
      obtain ⟨s, rfl, s0, s1⟩ := inn_int h'.2
      exact .inr ⟨m, s, rfl, m0, m1, s0, by omega⟩
  | _ => cases h
theorem StepIs.o {n : Int} {st : Th} (h : StepIs n st) : stepO n st = true := by
  rcases h with rfl | ⟨m, s, rfl, m0, m1, s0, s1⟩
  · rfl
  · show (inn 0 60 (.int m) && inn 0 (n - 1) (.int s)) = true
    rw [inn, inn, decide_eq_true m0, decide_eq_true m1, decide_eq_true s0, decide_eq_true (show s ≤ n - 1 by omega)]
    rfl
theorem rowB_is {z n : Int} {r : Th} (h : rowB z n r = true) : ∃ e ss, r = .tup [e, .tup ss] ∧ (e = .non ∨ ∃ i, e = .int i ∧ 1 ≤ i ∧ i ≤ 60) ∧ (ss.length : Int) = z ∧ ∀ st ∈ ss, StepIs n st := by
  cases r with
  | tup xs =>
    match xs, h with
    | [e, .tup ss], h =>
      rw [rowB, Bool.and_eq_true, Bool.and_eq_true, decide_eq_true_eq, List.all_eq_true] at h
      obtain ⟨⟨h1, h2⟩, h3⟩ := h
      refine ⟨e, ss, rfl, ?_, h2, fun st m => stepO_is (h3 st m)⟩
      rw [Bool.or_eq_true] at h1
      rcases h1 with h1 | h1
      · cases e <;> first | exact .inl rfl | cases h1
      · obtain ⟨i, rfl, i1, i2⟩ := inn_int h1
        exact .inr ⟨i, rfl, i1, i2⟩
  | _ => cases h
theorem rowB_of {z n : Int} {e : Th} {ss : List Th} (h1 : e = .non ∨ ∃ i, e = .int i ∧ 1 ≤ i ∧ i ≤ 60) (h2 : (ss.length : Int) = z) (h3 : ∀ st ∈ ss, StepIs n st) : rowB z n (.tup [e, .tup ss]) = true := by
  rw [rowB, Bool.and_eq_true, Bool.and_eq_true, decide_eq_true_eq, List.all_eq_true]
  refine ⟨⟨?_, h2⟩, fun st m => (h3 st m).o⟩
  rcases h1 with rfl | ⟨i, rfl, i1, i2⟩
  · rfl
  · rw [inn, decide_eq_true i1, decide_eq_true i2]; rfl
theorem MOk.row {z : Int} {rows : List Th} (m : MOk z rows) {s : Nat} (hs : s < rows.length) : ∃ e ss, rows[s]? = some (.tup [e, .tup ss]) ∧ (e = .non ∨ ∃ i, e = .int i ∧ 1 ≤ i ∧ i ≤ 60) ∧ (ss.length : Int) = z ∧ ∀ st ∈ ss, StepIs (rows.length : Int) st := by
  obtain ⟨e, ss, e1, h1, h2, h3⟩ := rowB_is (m.r rows[s] (List.getElem_mem hs))
  exact ⟨e, ss, by rw [List.getElem?_eq_getElem hs, e1], h1, h2, h3⟩
theorem At.mach {Z : Zone} {H : Hp} {z : Int} {rows : List Th} {v : V} (h : At Z H (.tup [.int z, .tup rows]) v) : ∃ p pr us, v = .ref p ∧ H p = some (.tup [.int z, .ref pr]) ∧ H pr = some (.tup us) ∧ AtAll Z H rows us ∧ ¬ Z pr := by
  obtain ⟨p, u, w', rfl, e, h1, h2⟩ := h.pair
  cases h1
  obtain ⟨pr, us, rfl, n, e2, a⟩ := h2
  exact ⟨p, pr, us, rfl, e, e2, a, n⟩
/-- a row as it lies -/
theorem row_at {Z : Zone} {H : Hp} {z : Int} {rows : List Th} {us : List V} {s : Nat} (a : AtAll Z H rows us) (m : MOk z rows) (hs : s < rows.length) :
    ∃ pu ve ps vs e ss, us[s]? = some (.ref pu) ∧ H pu = some (.tup [ve, .ref ps]) ∧ H ps = some (.tup vs) ∧ rows[s]? = some (.tup [e, .tup ss]) ∧ At Z H e ve ∧ ((e = .non ∧ ve = .non) ∨ ∃ i, e = .int i ∧ ve = .int i) ∧ (ss.length : Int) = z ∧ AtAll Z H ss vs ∧ (∀ st ∈ ss, StepIs (rows.length : Int) st) := by
  obtain ⟨e, ss, er, h1, h2, h3⟩ := m.row hs
  obtain ⟨u, eu, hu⟩ := a.at er
  obtain ⟨pu, ve, w', rfl, e1, b1, b2⟩ := hu.pair
  obtain ⟨ps, vs, rfl, _, e2, b3⟩ := b2
  refine ⟨pu, ve, ps, vs, e, ss, eu, e1, e2, er, b1, ?_, h2, b3, h3⟩
  rcases h1 with rfl | ⟨i, rfl, _⟩
  · exact .inl ⟨rfl, b1⟩
  · exact .inr ⟨i, rfl, b1⟩
/-- a step as it lies -/
theorem step_at {Z : Zone} {H : Hp} {rows ss : List Th} {vs : List V} {s l : Nat} {e : Th} {n : Int} (er : rows[s]? = some (.tup [e, .tup ss])) (a : AtAll Z H ss vs) (h : ∀ st ∈ ss, StepIs n st) (hl : l < ss.length) :
    ∃ w, vs[l]? = some w ∧ ((stepAt rows s l = .non ∧ w = .non) ∨ ∃ q m s', stepAt rows s l = .tup [.int m, .int s'] ∧ w = .ref q ∧ H q = some (.tup [.int m, .int s']) ∧ ¬ Z q ∧ 0 ≤ m ∧ m ≤ 60 ∧ 0 ≤ s' ∧ s' < n) := by
  have es : stepAt rows s l = ss[l] := by
    unfold stepAt
    rw [er]
    show ((ss)[l]?).getD .non = ss[l]
    rw [List.getElem?_eq_getElem hl]
    rfl
  obtain ⟨w, ew, hw⟩ := a.at (List.getElem?_eq_getElem hl)
  refine ⟨w, ew, ?_⟩
  rw [es]
  rcases h ss[l] (List.getElem_mem hl) with z | ⟨m, s', z, m0, m1, s0, s1⟩
  · rw [z] at hw ⊢
    exact .inl ⟨rfl, hw⟩
  · rw [z] at hw ⊢
    obtain ⟨q, us, rfl, nq, eq', a1⟩ := hw
    obtain ⟨u1, us1, rfl, r1, a2⟩ := a1
    obtain ⟨u2, us2, rfl, r2, a3⟩ := a2
    cases r1; cases r2
    rw [show us2 = [] from a3] at eq'
    exact .inr ⟨q, m, s', rfl, rfl, eq', nq, m0, m1, s0, s1⟩
theorem atI_n {us : List V} {s : Nat} {v : V} (h : us[s]? = some v) : atI us ((s : Nat) : Int) = some v := atI_nat h
theorem textB_ls {z : Int} {d : Th} (h : textB z d = true) : ∃ ls, d = .tup ls ∧ ∀ l ∈ ls, ∃ i, l = .int i ∧ 0 ≤ i ∧ i < z := by
  cases d with
  | tup ls =>
    rw [textB, List.all_eq_true] at h
    refine ⟨ls, rfl, fun l m => ?_⟩
    obtain ⟨i, rfl, i0, i1⟩ := inn_int (h l m)
    exact ⟨i, rfl, i0, by omega⟩
  | _ => cases h
theorem textB_of {z : Int} {ls : List Th} (h : ∀ l ∈ ls, ∃ i, l = .int i ∧ 0 ≤ i ∧ i < z) : textB z (.tup ls) = true := by
  rw [textB, List.all_eq_true]
  intro l m
  obtain ⟨i, rfl, i0, i1⟩ := h l m
  rw [inn, decide_eq_true i0, decide_eq_true (show i ≤ z - 1 by omega)]
  rfl
abbrev sc_demand_machineN : List Str := ["thing"]
abbrev s_demand_machine : Stmt := topS 19
theorem sc_demand_machine : FnScope ["thing"] ["thing"] (defScope s_demand_machine) := ⟨rfl, rfl, rfl, by decide +kernel, rfl, by decide +kernel, by decide +kernel⟩
def spDemand (C : Addr) : Sp := fun vs H Q E => ∃ Z u e, vs = [u] ∧ At Z H e u ∧ shortT e = true ∧ (machB e = true → ∀ H', Same H H' → Q .non H') ∧ (machB e = false → ∀ H', Same H H' → E (.ref C) none H')
def spLength (CM CT : Addr) : Sp := fun vs H Q E => ∃ Z u v e d, vs = [u, v] ∧ At Z H e u ∧ At Z H d v ∧ shortT e = true ∧ shortT d = true ∧
  (∀ z rows ls, e = .tup [.int z, .tup rows] → MOk z rows → d = .tup ls → textB z d = true → ∀ H', Same H H' → Q (optV (lenT rows ls)) H') ∧ (∀ z rows, e = .tup [.int z, .tup rows] → MOk z rows → textB z d = false → ∀ H', Same H H' → E (.ref CT) none H') ∧ (machB e = false → ∀ H', Same H H' → E (.ref CM) none H')
section
variable {X : Cx} {k : Nat} {x : Str} {ps : List Str} {sp : Sp} {e : Expr} {es : List Expr} {t : TA} {p pos : Pos} {E : XK}
/-- a call of a def that may raise, in a def that lets it out -/
theorem pe_calE (C : Cal X.prog X.w X.K X.mg X.base (L2.CX X.prog X.w) k x ps sp) (hr : Room k X.A) (hg : Gl X x) (tk : Takes X (fun cls d _ H => E cls d H)) (ha : PA X (e :: es) t) (hdb : (x == ("__debug__" : Str)) = false := by decide)
    (he : starEach (e :: es) X.env = (false, eval e X.env) :: starEach es X.env := by rfl) (hpl : (backTo pos (starEach es X.env)).any (·.1) = false := by rfl) :
    PE X (.Call (.Name x p) (e :: es) [] pos) (tCall sp [] E t) :=
  let ⟨_, _, F, m, kp, b⟩ := C.ex
  pe_call F hr hg m kp b .nil (passes_call tk fun _ _ _ _ h => h) ha hdb he hpl
end
section
variable {P : Program} {w : World} {K : PySem.W.Frag} {mg : Str → Option Value} {base : Heap} {k : Nat}
theorem ok_demand_machine {C : Addr} (T : Er K mg "NoMachine" C) (c_is_machine : Cal P w K mg base CX0 k "is_machine" ["thing"] (spTh machB)) (d : Def K mg "demand_machine" s_demand_machine ["thing"]) : Cal P w K mg base (L2.CX P w) (k + 1) "demand_machine" ["thing"] (spDemand C) := by
  refine d.okX sc_demand_machine (fun vs H Q E h => ?_) (fun f cdv A outer s H vs Q E hr h => ?_)
  · obtain ⟨_, _, _, rfl, _⟩ := h; rfl
  obtain ⟨Zn, u, e, rfl, hu, se, q1, q0⟩ := h
  refine ⟨_, (pss_one (ps_if (pt_not (pt_val (pe_cal c_is_machine hr (by rfl) (pa_cons (pv 0) pa_nil)))) (pss_one (ps_raise rfl (takes_of rfl rfl rfl rfl) (pmk_bare PySem.F.excBase_ValueError T.x T.g T.k (raises_own T.b T.t) (by exact rfl)))) pss_nil)), ?_⟩
  refine ⟨u, rfl, Zn, u, e, rfl, hu, se, fun H1 s1 => ⟨_, rfl, iteB (fun e1 => ?_) (fun e1 => ?_)⟩⟩
  · exact q0 (not_true e1) H1 s1
  · exact q1 (not_false' e1) H1 s1
end
end KL
end
section
set_option maxHeartbeats 1000000
namespace KL
open PySem PySem.Spec PyProof.Rows L2
abbrev sc_spreadN : List Str := ["starts", "ways", "found", "start", "waiting", "at", "state"]
abbrev s_spread : Stmt := topS 25
theorem sc_spread : FnScope ["starts", "ways", "found", "start", "waiting", "at", "state"] ["starts", "ways"] (defScope s_spread) := ⟨rfl, rfl, rfl, by decide +kernel, rfl, by decide +kernel, by decide +kernel⟩
abbrev nV (n : Nat) : V := .int (n : Nat)
/-- a list of lists of numbers -/
def LL (H : Hp) (W : Addr) (ways : List (List Nat)) : Prop := ∃ as : List Addr, H W = some (.lst (as.map V.ref)) ∧ as.length = ways.length ∧ ∀ (i : Nat) (a : Addr) (ws : List Nat), as[i]? = some a → ways[i]? = some ws → H a = some (.lst (ws.map nV))
theorem LL.same {H H' : Hp} {W : Addr} {ways : List (List Nat)} (h : LL H W ways) (s : Same H H') : LL H' W ways :=
  let ⟨as, e, l, q⟩ := h
  ⟨as, s _ _ e, l, fun i a ws ha hw => s _ _ (q i a ws ha hw)⟩
def spSpread : Sp := fun vs H Q _ => ∃ (S W : Addr) (starts : List Nat) (ways : List (List Nat)), vs = [.ref S, .ref W] ∧ H S = some (.lst (starts.map nV)) ∧ LL H W ways ∧ ways.length ≤ 1000 ∧ starts.length ≤ 1000 ∧ (∀ s ∈ starts, s < ways.length) ∧ (∀ (i : Nat) (ws : List Nat), ways[i]? = some ws → ∀ t ∈ ws, t < ways.length) ∧
  ∀ (F : Addr) (fl : List Bool) (H' : Hp), Same H H' → H F = none → H' F = some (.lst (fl.map V.bl)) → fl.length = ways.length → (∀ i : Nat, fl[i]? = some true ↔ RS ways starts i) → Q (.ref F) H'
theorem map_get {α β : Type} {f : α → β} {l : List α} {i : Nat} {x : β} (h : (l.map f)[i]? = some x) : ∃ y, l[i]? = some y ∧ x = f y := by
  rw [List.getElem?_map] at h
  obtain ⟨y, e, r⟩ := Option.map_eq_some_iff.mp h
  exact ⟨y, e, r.symm⟩
theorem get_map {α β : Type} {f : α → β} {l : List α} {i : Nat} {y : α} (h : l[i]? = some y) : (l.map f)[i]? = some (f y) := by
  rw [List.getElem?_map, h]; rfl
theorem ixT {n j : Nat} (hj : j < n) : ixN n (j : Int) = some j := by
  unfold ixN
  rw [if_pos (by omega), if_pos (by omega)]
  simp
section
variable {P : Program} {w : World} {K : PySem.W.Frag} {mg : Str → Option Value} {base : Heap} {k : Nat}
theorem ok_spread (Z : Zs mg) (d : Def K mg "spread" s_spread ["starts", "ways"]) : Cal P w K mg base CX0 (k + 1) "spread" ["starts", "ways"] spSpread := by
  refine d.ok sc_spread (fun vs H Q E h => ?_) (fun f cdv A outer s H vs Q E hr h => ?_)
  · obtain ⟨_, _, _, _, rfl, _⟩ := h; rfl
  obtain ⟨S, W, starts, ways, rfl, eS, hW, b1, b2, hs, wf, q⟩ := h
  refine ⟨_, (pss_cons (ps_setLc (i := 2) (own := [("state", 6)]) (g := gName 6) (tt := tYes) rfl sc_spread.nd rfl rfl (sw_true rfl rfl rfl (by decide +kernel)) (pi_list (pv 1)) (blkOk_by (N := ["starts", "ways", "found", "start", "waiting", "at", "state"]) (sc := defScope s_spread) (by decide +kernel)) (fun _ _ _ _ _ => (pg_name (i := 6) sc_spread.nd rfl (Or.inl rfl))) (fun _ _ _ _ _ => pts_nil) (fun _ _ _ _ _ => pe_bl))
      (pss_cons (ps_for PassesOwn.never rfl (pi_list (pv 0)) (pg_name (i := 3) sc_spread.nd rfl (Or.inl rfl)) (pss_one (ps_asg pe_bl (pg_sub (pv 2) (pv 3) set_list))))
      (pss_cons (ps_set (i := 4) sc_spread.nd rfl (Or.inl rfl) (pe_callTy (T := "list") call_list_of (by rfl) Z.list (by decide +kernel) (pa_cons (pv 0) pa_nil)))
      (pss_cons (ps_while PassesOwn.never (pt_truth (pv 4) (by intro _; rfl)) (pss_cons (ps_set (i := 5) sc_spread.nd rfl (Or.inl rfl) (pe_bm0 PySem.F.plainAttrs_list PySem.F.slot_list_pop PySem.F.type_list_pop mt_pop (pv 4)))
      (pss_one (ps_for PassesOwn.never rfl (pi_list (pe_ix ix_list (pv 1) (pv 5) (fun _ _ => rfl))) (pg_name (i := 6) sc_spread.nd rfl (Or.inl rfl)) (pss_one (ps_if (pt_not (pt_val (pe_ix ix_list (pv 2) (pv 6) (fun _ _ => rfl)))) (pss_cons (ps_asg pe_bl (pg_sub (pv 2) (pv 6) set_list))
      (pss_one (ps_expr (pe_bm PySem.F.plainAttrs_list PySem.F.slot_list_append PySem.F.type_list_append mt_append (pv 4) (pa_cons (pv 6) pa_nil))))) pss_nil))))))
      (pss_one (ps_ret (pv 2))))))), ?_⟩
  obtain ⟨as, eW, la, hA⟩ := id hW
  have nFS : ∀ {F : Addr}, H F = none → S ≠ F := fun h e => by rw [← e, eS] at h; cases h
  have nFW : ∀ {F : Addr}, H F = none → W ≠ F := fun h e => by rw [← e, eW] at h; cases h
  -- found
  refine ⟨_, rfl, W, rfl, ⟨_, .of eW⟩, fun F hF => lc_list (xs := as.map V.ref) (fun j H' => Same H H' ∧ H' F = some (.lst ((List.replicate j false).map V.bl))) ⟨same_new hF _, upd_same⟩ (fun j H' _ p' => .of (p'.1 _ _ eW)) (fun j x H' ex p' => ?_) (fun H1 p1 => ?_)⟩
  · have lj := (List.getElem?_eq_some_iff.mp ex).1
    rw [List.length_map, la] at lj
    refine ⟨rfl, iteT (B := False) ⟨_, p'.2, ?_, Same.upd_new p'.1 hF _, ?_⟩⟩
    · rw [List.length_map, List.length_replicate, sizeLine_eq]; omega
    · rw [upd_same, List.replicate_succ', List.map_append]; rfl
  obtain ⟨s1, e1⟩ := p1
  rw [List.length_map, la] at e1
  -- the starts
  refine ⟨_, rfl, S, rfl, ⟨_, .of (s1 _ _ eS)⟩, for_list (xs := starts.map nV) (fun j σ' H' => Same H H' ∧ ∃ (fl : List Bool) (y3 : Option V), H' F = some (.lst (fl.map V.bl)) ∧ SK ways.length (starts.take j) fl ∧ σ' = [some (.ref S), some (.ref W), some (.ref F), y3, none, none, none])
    ⟨s1, _, none, e1, by rw [List.take_zero]; exact .zero _, rfl⟩ (fun j σ' H' _ p' => .of (p'.1 _ _ eS)) (fun j x σ' H' ex p' => ?_) (fun σ' H2 p' => ?_)⟩
  · obtain ⟨t, et, rfl⟩ := map_get ex
    obtain ⟨s', fl, y3, eF, sk, rfl⟩ := p'
    have lt := hs t (List.mem_of_getElem? et)
    refine ⟨_, rfl, _, rfl, F, _, (t : Int), t, rfl, rfl, eF, ixT (by rw [List.length_map, sk.len]; exact lt), Same.upd_new s' hF _, fl.set t true, _, ?_, ?_, rfl⟩
    · rw [upd_same, List.map_set]
    · rw [List.take_add_one, et]; exact sk.add lt
  obtain ⟨s2, fl0, y3, eF0, sk, rfl⟩ := p'
  rw [List.length_map, List.take_length] at sk
  -- waiting
  refine ⟨_, rfl, S, starts.map nV, rfl, .inl (.of (s2 _ _ eS)), fun Wt nWt => ?_⟩
  have z2 := same_new nWt (.lst (starts.map nV))
  have hWt : H Wt = none := Same.free s2 nWt
  have nWF : Wt ≠ F := fun e => by rw [e, eF0] at nWt; cases nWt
  refine ⟨fun m σ' H' => Same H H' ∧ ∃ (fl : List Bool) (wt : List Nat) (y3 y5 y6 : Option V), σ' = [some (.ref S), some (.ref W), some (.ref F), y3, some (.ref Wt), y5, y6] ∧ H' F = some (.lst (fl.map V.bl)) ∧ H' Wt = some (.lst (wt.map nV)) ∧ SI ways starts fl wt ∧ 2 * cnt fl + wt.length = m ∧ m ≤ 3000,
    ⟨_, s2.trans z2, fl0, starts, _, none, none, rfl, z2 _ _ eF0, upd_same, sk.si, rfl, by have := cnt_le fl0; have := sk.len; omega⟩, ?_⟩
  rintro m σ' H3 ⟨s3, fl, wt, y3', y5, y6, rfl, eF, eWt, si, em, hm⟩
  refine ⟨_, rfl, _, .inl ⟨_, .of eWt, rfl⟩, iteB (fun e => ?_) (fun e => ?_)⟩
  · rcases List.eq_nil_or_concat wt with rfl | ⟨ys, a, rfl⟩
    · cases e
    rw [List.concat_eq_append] at eWt si em
    refine ⟨fun σ' H' => ∃ m', m' < m ∧ (Same H H' ∧ ∃ (fl : List Bool) (wt : List Nat) (y3 y5 y6 : Option V), σ' = [some (.ref S), some (.ref W), some (.ref F), y3, some (.ref Wt), y5, y6] ∧ H' F = some (.lst (fl.map V.bl)) ∧ H' Wt = some (.lst (wt.map nV)) ∧ SI ways starts fl wt ∧ 2 * cnt fl + wt.length = m' ∧ m' ≤ 3000), fun σ' H' h => h, ?_⟩
    have sj := si.pop
    have la' : a < ways.length := by rw [← si.len]; exact (List.getElem?_eq_some_iff.mp sj.rat).1
    rw [List.length_append] at em
    -- pop
    refine ⟨_, rfl, .inl ⟨rfl, _, .inl (.inl eWt)⟩, Wt, _, nV a, rfl, rfl, eWt, ?_, ?_⟩
    · rw [List.map_append, List.length_append, List.length_map]; simp
    have eD : ((ys ++ [a]).map nV).dropLast = ys.map nV := by rw [List.map_append]; simp
    rw [eD]
    have s4 : Same H (upd H3 Wt (.lst (ys.map nV))) := Same.upd_new s3 hWt _
    have eF4 : (upd H3 Wt (.lst (ys.map nV))) F = some (.lst (fl.map V.bl)) := by rw [upd_ne (Ne.symm nWF)]; exact eF
    have ea : as[a]? = some (as[a]'(by rw [la]; exact la')) := List.getElem?_eq_getElem _
    have ew : ways[a]? = some (ways[a]'la') := List.getElem?_eq_getElem _
    generalize as[a]'(by rw [la]; exact la') = aw at ea
    generalize ways[a]'la' = ws at ew
    have eaw := hA a aw ws ea ew
    have ewd : (ways[a]?).getD [] = ws := by rw [ew]; rfl
    -- for state in ways[at]
    refine ⟨_, rfl, _, rfl, W, _, (a : Int), .ref aw, rfl, rfl, .of (s4 _ _ eW), atI_nat (get_map ea), aw, rfl, ⟨_, .of (s4 _ _ eaw)⟩, for_list (xs := ws.map nV) (fun j σ' H' => Same H H' ∧ ∃ (fl : List Bool) (wt : List Nat) (y3 y6 : Option V), σ' = [some (.ref S), some (.ref W), some (.ref F), y3, some (.ref Wt), some (nV a), y6] ∧ H' F = some (.lst (fl.map V.bl)) ∧ H' Wt = some (.lst (wt.map nV)) ∧ SJ ways starts a j fl wt ∧ 2 * cnt fl + wt.length < m)
      ⟨s4, fl, ys, _, _, rfl, eF4, upd_same, sj, by simp at em; omega⟩ (fun j σ' H' _ p' => .of (p'.1 _ _ eaw)) (fun j x σ' H' ex p' => ?_) (fun σ' H' p' => ?_)⟩
    · obtain ⟨t, et, rfl⟩ := map_get ex
      obtain ⟨s5, fl5, wt5, y3, y6, rfl, eF5, eWt5, sj5, lm⟩ := p'
      have lt := wf a ws ew t (List.mem_of_getElem? et)
      have lt5 : t < fl5.length := by rw [sj5.len]; exact lt
      have et' : ((ways[a]?).getD [])[j]? = some t := by rw [ewd]; exact et
      obtain ⟨b, eb⟩ : ∃ b, fl5[t]? = some b := ⟨_, List.getElem?_eq_getElem lt5⟩
      refine ⟨_, rfl, _, rfl, F, _, (t : Int), .bl b, rfl, rfl, .of eF5, atI_nat (get_map eb), b, rfl, iteB (fun e => ?_) (fun e => ?_)⟩
      · have e' := not_true e
        subst e'
        refine ⟨_, rfl, _, rfl, F, _, (t : Int), t, rfl, rfl, eF5, ixT (by rw [List.length_map]; exact lt5), ?_⟩
        have eW6 : (upd H' F (.lst ((fl5.map V.bl).set t (.bl true)))) Wt = some (.lst (wt5.map nV)) := by rw [upd_ne nWF]; exact eWt5
        have hc := cnt_set eb
        refine ⟨_, rfl, .inl ⟨rfl, _, .inl (.inl eW6)⟩, _, rfl, Wt, _, nV t, rfl, rfl, eW6, by rw [List.length_map, sizeLine_eq]; omega, ?_⟩
        refine ⟨Same.upd_new (Same.upd_new s5 hF _) hWt _, fl5.set t true, wt5 ++ [t], _, _, rfl, ?_, ?_, sj5.set et' eb, by rw [List.length_append, List.length_singleton]; omega⟩
        · rw [upd_ne (Ne.symm nWF), upd_same, List.map_set]
        · rw [upd_same, List.map_append]; rfl
      · have e' := not_false' e
        subst e'
        exact ⟨s5, fl5, wt5, _, _, rfl, eF5, eWt5, sj5.skip et' eb, lm⟩
    · obtain ⟨s5, fl5, wt5, y3, y6, rfl, eF5, eWt5, sj5, lm⟩ := p'
      rw [List.length_map, ← ewd] at sj5
      exact ⟨_, lm, s5, fl5, wt5, _, _, _, rfl, eF5, eWt5, sj5.done, rfl, by omega⟩
  · have ew : wt = [] := by
      cases wt with
      | nil => rfl
      | cons a b => cases e
    subst ew
    exact ⟨_, rfl, q F fl H3 s3 hF eF si.len fun i => si.fin i⟩
end
end KL
end
section
set_option maxHeartbeats 1000000
namespace KL
open PySem PySem.Spec PyProof.Rows L2
/-! ### the graph of a machine's steps -/
def tgt : Th → Option Nat
  | .tup [_, .int s] => some s.toNat
  | _ => none
def nxr (r : Th) : List Nat := (stepsOf r).filterMap tgt
def nxs (rows : List Th) : List (List Nat) := rows.map nxr
abbrev Rc (rows : List Th) (a b : Nat) : Prop := RS (nxs rows) [a] b
theorem nxs_len (rows : List Th) : (nxs rows).length = rows.length := List.length_map _
theorem nxs_get {rows : List Th} {i : Nat} {r : Th} (h : rows[i]? = some r) : (nxs rows)[i]? = some (nxr r) := by
  unfold nxs; rw [List.getElem?_map, h]; rfl
theorem nxs_getD (rows : List Th) (i : Nat) : ((nxs rows)[i]?).getD [] = nxr ((rows[i]?).getD .non) := by
  unfold nxs
  rw [List.getElem?_map]
  cases rows[i]? <;> rfl
theorem RS.trans1 {ways : List (List Nat)} {ss : List Nat} {b c : Nat} (h : RS ways ss b) (k : RS ways [b] c) : RS ways ss c := by
  induction k with
  | base m => rw [List.mem_singleton.mp m]; exact h
  | step _ m ih => exact .step ih m
theorem RS.more {ways : List (List Nat)} {ss tt : List Nat} {c : Nat} (hs : ∀ s ∈ ss, s ∈ tt) (k : RS ways ss c) : RS ways tt c := by
  induction k with
  | base m => exact .base (hs _ m)
  | step _ m ih => exact .step ih m
theorem RS.from1 {ways : List (List Nat)} {ss : List Nat} {c : Nat} (k : RS ways ss c) : ∃ s ∈ ss, RS ways [s] c := by
  induction k with
  | base m => exact ⟨_, m, .base (List.mem_singleton.mpr rfl)⟩
  | step _ m ih =>
    obtain ⟨s, ms, h⟩ := ih
    exact ⟨s, ms, .step h m⟩
theorem Rc.rfl' (rows : List Th) (a : Nat) : Rc rows a a := .base (List.mem_singleton.mpr rfl)
theorem Rc.head {rows : List Th} {a t b : Nat} (h : t ∈ ((nxs rows)[a]?).getD []) (k : Rc rows t b) : Rc rows a b := RS.trans1 (.step (Rc.rfl' rows a) h) k
theorem RS.back {ways bs : List (List Nat)} (hb : ∀ i t : Nat, t ∈ (bs[i]?).getD [] ↔ i ∈ (ways[t]?).getD []) {a b : Nat} (h : RS ways [a] b) : RS bs [b] a := by
  induction h with
  | base m => rw [List.mem_singleton.mp m]; exact .base (List.mem_singleton.mpr rfl)
  | step _ m ih => exact RS.trans1 (.step (.base (List.mem_singleton.mpr rfl)) ((hb _ _).mpr m)) ih
theorem RS.ends {ways bs : List (List Nat)} (hb : ∀ i t : Nat, t ∈ (bs[i]?).getD [] ↔ i ∈ (ways[t]?).getD []) (es : List Nat) (i : Nat) : RS bs es i ↔ ∃ e ∈ es, RS ways [i] e := by
  constructor
  · intro h
    obtain ⟨e, me, h⟩ := RS.from1 h
    exact ⟨e, me, RS.back (ways := bs) (bs := ways) (fun i t => (hb t i).symm) h⟩
  · rintro ⟨e, me, h⟩
    exact RS.more (fun s m => by rw [List.mem_singleton.mp m]; exact me) (RS.back hb h)
theorem tgt_lt {n : Int} {st : Th} {t : Nat} (h : StepIs n st) (e : tgt st = some t) : (t : Int) < n := by
  rcases h with rfl | ⟨m, s, rfl, m0, m1, s0, s1⟩
  · cases e
  · have e' : s.toNat = t := Option.some.inj e
    omega
theorem MOk.nx_lt {z : Int} {rows : List Th} (ok : MOk z rows) : ∀ (i : Nat) (ws : List Nat), (nxs rows)[i]? = some ws → ∀ t ∈ ws, t < (nxs rows).length := by
  intro i ws h t m
  rw [nxs_len]
  have hi : i < rows.length := by
    have := (List.getElem?_eq_some_iff.mp h).1
    rwa [nxs_len] at this
  obtain ⟨e, ss, er, h1, h2, h3⟩ := ok.row hi
  rw [nxs_get er] at h
  cases h
  obtain ⟨st, ms, et⟩ := List.mem_filterMap.mp m
  have := tgt_lt (h3 st ms) et
  omega
theorem MOk.rc_lt {z : Int} {rows : List Th} (ok : MOk z rows) {a b : Nat} (ha : a < rows.length) (h : Rc rows a b) : b < rows.length := by
  have := RS.lt ok.nx_lt (fun s m => by rw [List.mem_singleton.mp m, nxs_len]; exact ha) h
  rwa [nxs_len] at this
def isEnd (rows : List Th) (s : Nat) : Prop := endOf ((rows[s]?).getD .non) ≠ .non
def lvE (rows : List Th) (s : Nat) : Prop := ∃ e, Rc rows s e ∧ isEnd rows e
def lv (rows : List Th) (s : Nat) : Prop := Rc rows 0 s ∧ lvE rows s
noncomputable def keepB (rows : List Th) (s : Nat) : Bool := @decide (lv rows s) (Classical.propDecidable _)
theorem keepB_iff {rows : List Th} {s : Nat} : keepB rows s = true ↔ lv rows s := by
  unfold keepB; exact @decide_eq_true_iff (lv rows s) (Classical.propDecidable _)
noncomputable def lvEB (rows : List Th) (s : Nat) : Bool := @decide (lvE rows s) (Classical.propDecidable _)
theorem lvEB_iff {rows : List Th} {s : Nat} : lvEB rows s = true ↔ lvE rows s := by
  unfold lvEB; exact @decide_eq_true_iff (lvE rows s) (Classical.propDecidable _)
noncomputable def keep (rows : List Th) : List Nat := (List.range rows.length).filter (keepB rows)
theorem mem_keep {rows : List Th} {s : Nat} : s ∈ keep rows ↔ s < rows.length ∧ lv rows s := by
  unfold keep
  rw [List.mem_filter, List.mem_range, keepB_iff]
theorem keep_nodup (rows : List Th) : (keep rows).Nodup := List.Pairwise.filter _ List.nodup_range
theorem keep_len (rows : List Th) : (keep rows).length ≤ rows.length := by
  have := List.length_filter_le (keepB rows) (List.range rows.length)
  rwa [List.length_range] at this
theorem isEnd_lvE {rows : List Th} {s : Nat} (h : isEnd rows s) : lvE rows s := ⟨s, Rc.rfl' rows s, h⟩
theorem lvE_head {rows : List Th} {a t : Nat} (h : t ∈ ((nxs rows)[a]?).getD []) (k : lvE rows t) : lvE rows a := by
  obtain ⟨e, r, he⟩ := k
  exact ⟨e, Rc.head h r, he⟩
theorem lvE_of {rows : List Th} {a t : Nat} (h : Rc rows a t) (k : lvE rows t) : lvE rows a := by
  obtain ⟨e, r, he⟩ := k
  exact ⟨e, RS.trans1 h r, he⟩
theorem keep_zero {rows : List Th} (n1 : 1 ≤ rows.length) (h : lvE rows 0) : 0 ∈ keep rows := mem_keep.mpr ⟨n1, Rc.rfl' rows 0, h⟩
theorem keep_ne {rows : List Th} (n1 : 1 ≤ rows.length) (h : keep rows ≠ []) : lvE rows 0 := by
  obtain ⟨s, hs⟩ := List.exists_mem_of_ne_nil _ h
  obtain ⟨_, r, e⟩ := mem_keep.mp hs
  exact lvE_of r e
theorem keep_first {rows : List Th} (n1 : 1 ≤ rows.length) (h : lvE rows 0) : (keep rows)[0]? = some 0 := by
  obtain ⟨n, hn⟩ : ∃ n, rows.length = n + 1 := ⟨rows.length - 1, by omega⟩
  unfold keep
  rw [hn, List.range_succ_eq_map, List.filter_cons, if_pos (keepB_iff.mpr ⟨Rc.rfl' rows 0, h⟩)]
  rfl
/-! ### the machine with its live states alone -/
def renS (ks : List Nat) : Th → Th
  | .tup [m, .int s] => if s.toNat ∈ ks then .tup [m, .int (ks.idxOf s.toNat : Nat)] else .non
  | _ => .non
def renT (ks : List Nat) (r : Th) : Th := .tup [endOf r, .tup ((stepsOf r).map (renS ks))]
def bareRow (z : Int) : Th := .tup [.non, .tup (List.replicate z.toNat .non)]
noncomputable def trimL (z : Int) (rows : List Th) : List Th := if keep rows = [] then [bareRow z] else (keep rows).map fun s => renT (keep rows) ((rows[s]?).getD .non)
noncomputable def trimT (z : Int) (rows : List Th) : Th := .tup [.int z, .tup (trimL z rows)]
theorem renS_is {n k : Nat} {ks : List Nat} {st : Th} (hk : ks.length = k) (h : StepIs (n : Int) st) : StepIs (k : Int) (renS ks st) := by
  rcases h with rfl | ⟨m, s, rfl, m0, m1, s0, s1⟩
  · exact .inl rfl
  · show StepIs (k : Int) (if s.toNat ∈ ks then .tup [.int m, .int (ks.idxOf s.toNat : Nat)] else .non)
    by_cases hm : s.toNat ∈ ks
    · rw [if_pos hm]
      refine .inr ⟨m, _, rfl, m0, m1, by omega, ?_⟩
      have := List.idxOf_lt_length_of_mem hm
      omega
    · rw [if_neg hm]; exact .inl rfl
theorem bare_ok {z : Int} (z1 : 1 ≤ z) (z8 : z ≤ 8) : MOk z [bareRow z] where
  z1 := z1
  z8 := z8
  n1 := Nat.le_refl _
  n30 := (by decide : 1 ≤ 30)
  r := fun r m => by
    rw [List.mem_singleton.mp m]
    exact rowB_of (.inl rfl) (by rw [List.length_replicate]; omega) fun st ms => .inl (List.eq_of_mem_replicate ms)
theorem trimL_ok {z : Int} {rows : List Th} (ok : MOk z rows) : MOk z (trimL z rows) := by
  unfold trimL
  by_cases h : keep rows = []
  · rw [if_pos h]; exact bare_ok ok.z1 ok.z8
  · rw [if_neg h]
    refine ⟨ok.z1, ok.z8, ?_, ?_, fun r m => ?_⟩
    · rw [List.length_map]
      exact List.length_pos_iff.mpr h
    · rw [List.length_map]
      have := keep_len rows
      have := ok.n30
      omega
    · obtain ⟨s, ms, rfl⟩ := List.mem_map.mp m
      obtain ⟨e, ss, er, h1, h2, h3⟩ := ok.row (mem_keep.mp ms).1
      rw [er]
      rw [List.length_map]
      exact rowB_of h1 (by show ((ss.map _).length : Int) = z; rw [List.length_map]; exact h2) fun st mst => by
        obtain ⟨x, mx, rfl⟩ := List.mem_map.mp mst
        exact renS_is rfl (h3 x mx)
theorem trimL_get {z : Int} {rows : List Th} (h : keep rows ≠ []) {j s : Nat} (e : (keep rows)[j]? = some s) : (trimL z rows)[j]? = some (renT (keep rows) ((rows[s]?).getD .non)) := by
  unfold trimL
  rw [if_neg h, List.getElem?_map, e]
  rfl
theorem ne_of_get {rows : List Th} {j s : Nat} (e : (keep rows)[j]? = some s) : keep rows ≠ [] := fun h => by rw [h] at e; cases e
theorem step_trim {z : Int} {rows : List Th} {j s : Nat} (e : (keep rows)[j]? = some s) (l : Nat) : stepAt (trimL z rows) j l = renS (keep rows) (stepAt rows s l) := by
  unfold stepAt
  rw [trimL_get (ne_of_get e) e]
  show (((stepsOf ((rows[s]?).getD .non)).map (renS (keep rows)))[l]?).getD .non = _
  rw [List.getElem?_map]
  cases (stepsOf ((rows[s]?).getD .non))[l]? <;> rfl
theorem end_trim {z : Int} {rows : List Th} {j s : Nat} (e : (keep rows)[j]? = some s) : endOf (((trimL z rows)[j]?).getD .non) = endOf ((rows[s]?).getD .non) := by
  rw [trimL_get (ne_of_get e) e]
  rfl
theorem step_nx {rows : List Th} {s l : Nat} {m s' : Int} (h : stepAt rows s l = .tup [.int m, .int s']) : s'.toNat ∈ ((nxs rows)[s]?).getD [] := by
  rw [nxs_getD]
  unfold stepAt at h
  cases e : (stepsOf ((rows[s]?).getD .non))[l]? with
  | none => rw [e] at h; cases h
  | some x =>
    rw [e] at h
    have h' : x = .tup [.int m, .int s'] := h
    subst h'
    exact List.mem_filterMap.mpr ⟨_, List.mem_of_getElem? e, rfl⟩
theorem nx_step {z : Int} {rows : List Th} (ok : MOk z rows) {s t : Nat} (h : t ∈ ((nxs rows)[s]?).getD []) : ∃ (l : Nat) (m : Int), (l : Int) < z ∧ stepAt rows s l = .tup [.int m, .int (t : Int)] := by
  rw [nxs_getD] at h
  obtain ⟨st, ms, et⟩ := List.mem_filterMap.mp h
  obtain ⟨l, el⟩ := List.mem_iff_getElem?.mp ms
  cases hs : rows[s]? with
  | none => rw [hs] at ms; cases ms
  | some r =>
    have hlt := (List.getElem?_eq_some_iff.mp hs).1
    obtain ⟨e, ss, er, h1, h2, h3⟩ := ok.row hlt
    rw [er] at el ms
    have ms' : st ∈ ss := ms
    have el' : ss[l]? = some st := el
    rcases h3 st ms' with rfl | ⟨m, s', rfl, m0, m1, s0, s1⟩
    · cases et
    · have e1 : s'.toNat = t := Option.some.inj et
      have l1 := (List.getElem?_eq_some_iff.mp el').1
      refine ⟨l, m, by omega, ?_⟩
      unfold stepAt
      rw [er]
      show ((ss)[l]?).getD .non = _
      rw [el', show (t : Int) = s' by omega]
      rfl
theorem stepAt_is {z : Int} {rows : List Th} (ok : MOk z rows) (s l : Nat) : StepIs (rows.length : Int) (stepAt rows s l) := by
  unfold stepAt
  cases hs : rows[s]? with
  | none => exact .inl rfl
  | some r =>
    have hlt := (List.getElem?_eq_some_iff.mp hs).1
    obtain ⟨e, ss, er, h1, h2, h3⟩ := ok.row hlt
    rw [hs] at er
    cases er
    show StepIs _ (((ss)[l]?).getD .non)
    cases hl : ss[l]? with
    | none => exact .inl rfl
    | some st => exact h3 st (List.mem_of_getElem? hl)
/-- from a state from which no text ends -/
theorem read_dead {z : Int} {rows : List Th} (ok : MOk z rows) : ∀ (ls : List Th) (s : Nat) (m : Int), ¬ lvE rows s → lastT rows (rdT rows s m ls) = none
  | [], s, m, h => by
    rw [rdT, lastT]
    have he : endOf ((rows[s]?).getD .non) = .non := Classical.byContradiction fun e => h (isEnd_lvE e)
    rw [he]
  | l :: ls, s, m, h => by
    rw [rdT]
    rcases stepAt_is ok s (num l).toNat with e | ⟨d, s', e, _, _, _, _⟩
    · rw [e]; rfl
    · rw [e]
      exact read_dead ok ls _ _ fun k => h (lvE_head (step_nx e) k)
theorem read_trim {z : Int} {rows : List Th} (ok : MOk z rows) : ∀ (ls : List Th) (s j : Nat) (m : Int), (keep rows)[j]? = some s → lastT rows (rdT rows s m ls) = lastT (trimL z rows) (rdT (trimL z rows) j m ls)
  | [], s, j, m, h => by rw [rdT, rdT, lastT, lastT, end_trim h]
  | l :: ls, s, j, m, h => by
    rw [rdT, rdT, step_trim h]
    rcases stepAt_is ok s (num l).toNat with e | ⟨d, s', e, _, _, _, s1⟩
    · rw [e]; rfl
    · rw [e, renS]
      by_cases hm : s'.toNat ∈ keep rows
      · rw [if_pos hm]
        have hj : (keep rows)[(keep rows).idxOf s'.toNat]? = some s'.toNat := by
          have hl := List.idxOf_lt_length_of_mem hm
          rw [List.getElem?_eq_getElem hl, List.getElem_idxOf]
        have ih := read_trim ok ls s'.toNat _ (m + d) hj
        rw [ih]
        rfl
      · rw [if_neg hm]
        show lastT rows (rdT rows s'.toNat (m + d) ls) = none
        refine read_dead ok ls _ _ fun k => hm (mem_keep.mpr ⟨by omega, ?_, k⟩)
        have := (mem_keep.mp (List.mem_of_getElem? h)).2.1
        exact .step this (step_nx e)
theorem bare_step (z : Int) (l : Nat) : stepAt [bareRow z] 0 l = .non := by
  show ((List.replicate z.toNat Th.non)[l]?).getD .non = .non
  rw [List.getElem?_replicate]
  split <;> rfl
theorem len_trim {z : Int} {rows : List Th} (ok : MOk z rows) (ls : List Th) : lenT rows ls = lenT (trimL z rows) ls := by
  unfold lenT
  by_cases h : keep rows = []
  · have hd : ¬ lvE rows 0 := fun k => by
      have := keep_zero ok.n1 k
      rw [h] at this
      cases this
    rw [read_dead ok ls 0 0 hd]
    unfold trimL
    rw [if_pos h]
    cases ls with
    | nil => rfl
    | cons l ls => rw [rdT, bare_step]; rfl
  · exact read_trim ok ls 0 0 0 (keep_first ok.n1 (keep_ne ok.n1 h))
/-! trimmed twice -/
theorem keep_idx {rows : List Th} {j s : Nat} (e : (keep rows)[j]? = some s) : (keep rows).idxOf s = j := by
  have hj := (List.getElem?_eq_some_iff.mp e)
  obtain ⟨hl, e2⟩ := hj
  rw [← e2]
  exact (keep_nodup rows).idxOf_getElem j hl
theorem rc_trim {z : Int} {rows : List Th} (ok : MOk z rows) {a b : Nat} (ha : a ∈ keep rows) (h : Rc rows a b) (hb : lvE rows b) : b ∈ keep rows ∧ Rc (trimL z rows) ((keep rows).idxOf a) ((keep rows).idxOf b) := by
  induction h with
  | base m => rw [List.mem_singleton.mp m]; exact ⟨ha, Rc.rfl' _ _⟩
  | step h0 m ih =>
    rename_i i t
    obtain ⟨mi, ri⟩ := ih (lvE_head m hb)
    have ki := mem_keep.mp mi
    have mt : t ∈ keep rows := mem_keep.mpr ⟨by
      have := ok.rc_lt ki.1 (.step (Rc.rfl' rows i) m)
      exact this, .step ki.2.1 m, hb⟩
    refine ⟨mt, .step ri ?_⟩
    obtain ⟨l, d, _, el⟩ := nx_step ok m
    have ei : (keep rows)[(keep rows).idxOf i]? = some i := by
      have hl := List.idxOf_lt_length_of_mem mi
      rw [List.getElem?_eq_getElem hl, List.getElem_idxOf]
    have e2 := step_trim (z := z) ei l
    rw [el, renS, Int.toNat_natCast, if_pos mt] at e2
    have := step_nx e2
    rwa [Int.toNat_natCast] at this
theorem keep_trim {z : Int} {rows : List Th} (ok : MOk z rows) (h : keep rows ≠ []) : keep (trimL z rows) = List.range (keep rows).length := by
  have hl : (trimL z rows).length = (keep rows).length := by unfold trimL; rw [if_neg h, List.length_map]
  have h0 := keep_first ok.n1 (keep_ne ok.n1 h)
  have m0 := List.mem_of_getElem? h0
  unfold keep
  rw [hl]
  refine List.filter_eq_self.mpr fun j mj => ?_
  rw [List.mem_range] at mj
  have ej := List.getElem?_eq_getElem (l := keep rows) mj
  have ms := List.mem_of_getElem? ej
  obtain ⟨_, r, e, re, he⟩ := mem_keep.mp ms
  have r1 := (rc_trim (z := z) ok m0 r ⟨e, re, he⟩).2
  obtain ⟨me, r2⟩ := rc_trim (z := z) ok ms re (isEnd_lvE he)
  rw [keep_idx h0, keep_idx ej] at r1
  rw [keep_idx ej] at r2
  have ee : (keep rows)[(keep rows).idxOf e]? = some e := by
    have hl := List.idxOf_lt_length_of_mem me
    rw [List.getElem?_eq_getElem hl, List.getElem_idxOf]
  refine keepB_iff.mpr ⟨r1, _, r2, ?_⟩
  unfold isEnd
  rw [end_trim ee]
  exact he
theorem ren_id {k : Nat} {st : Th} (h : StepIs (k : Int) st) : renS (List.range k) st = st := by
  rcases h with rfl | ⟨m, s, rfl, m0, m1, s0, s1⟩
  · rfl
  · have hm : s.toNat ∈ List.range k := List.mem_range.mpr (by omega)
    rw [renS, if_pos hm]
    have e : (List.range k).idxOf s.toNat = s.toNat := by
      have hl : s.toNat < (List.range k).length := by rw [List.length_range]; omega
      have := (List.nodup_range (n := k)).idxOf_getElem s.toNat hl
      rwa [List.getElem_range] at this
    rw [e, show ((s.toNat : Nat) : Int) = s by omega]
theorem trim_trim {z : Int} {rows : List Th} (ok : MOk z rows) : trimL z (trimL z rows) = trimL z rows := by
  by_cases h : keep rows = []
  · have e : trimL z rows = [bareRow z] := by unfold trimL; rw [if_pos h]
    rw [e]
    have hk : keep [bareRow z] = [] := by
      refine List.eq_nil_iff_forall_not_mem.mpr fun s ms => ?_
      obtain ⟨hs, r, x, rx, hx⟩ := mem_keep.mp ms
      have okb := bare_ok ok.z1 ok.z8
      have lx := okb.rc_lt hs rx
      have x0 : x = 0 := by have : x < 1 := lx; omega
      subst x0
      exact hx rfl
    unfold trimL
    rw [if_pos hk]
  · have ok2 := trimL_ok ok
    have hk := keep_trim ok h
    have hl : (trimL z rows).length = (keep rows).length := by unfold trimL; rw [if_neg h, List.length_map]
    have hne : keep (trimL z rows) ≠ [] := by
      rw [hk]
      intro e
      have : (List.range (keep rows).length).length = 0 := by rw [e]; rfl
      rw [List.length_range] at this
      exact h (List.length_eq_zero_iff.mp this)
    rw [show trimL z (trimL z rows) = (keep (trimL z rows)).map fun s => renT (keep (trimL z rows)) (((trimL z rows)[s]?).getD .non) by rw [trimL, if_neg hne], hk]
    refine List.ext_getElem? fun j => ?_
    rw [List.getElem?_map]
    by_cases hj : j < (keep rows).length
    · rw [List.getElem?_range hj]
      show some (renT (List.range (keep rows).length) (((trimL z rows)[j]?).getD .non)) = _
      have hj2 : j < (trimL z rows).length := by rw [hl]; exact hj
      obtain ⟨e, ss, er, h1, h2, h3⟩ := ok2.row hj2
      rw [er]
      show some (Th.tup [e, .tup (ss.map (renS (List.range (keep rows).length)))]) = _
      have : ss.map (renS (List.range (keep rows).length)) = ss := by
        conv => rhs; rw [← List.map_id ss]
        refine List.map_congr_left fun st ms => ?_
        have := h3 st ms
        rw [hl] at this
        exact ren_id this
      rw [this]
    · rw [List.getElem?_eq_none (by rw [List.length_range]; omega), List.getElem?_eq_none (by rw [hl]; omega)]
      rfl
/-! a text through each state -/
theorem rdT_mv (rows : List Th) : ∀ (ls : List Th) (s : Nat) (m m' : Int), (rdT rows s m ls).2 = (rdT rows s m' ls).2
  | [], _, _, _ => rfl
  | l :: ls, s, m, m' => by
    rw [rdT, rdT]
    split
    · exact rdT_mv rows ls _ _ _
    · rfl
def Led (rows : List Th) (a : Nat) (ls : List Th) (b : Nat) : Prop := (rdT rows a 0 ls).2 = some b
theorem Led.nil (rows : List Th) (a : Nat) : Led rows a [] a := rfl
theorem rdT_app (rows : List Th) : ∀ (ls ks : List Th) (s b : Nat) (m : Int), (rdT rows s m ls).2 = some b → ∃ m', rdT rows s m (ls ++ ks) = rdT rows b m' ks
  | [], ks, s, b, m, h => by
    have e : s = b := Option.some.inj h
    subst e
    exact ⟨m, rfl⟩
  | l :: ls, ks, s, b, m, h => by
    rw [List.cons_append, rdT]
    rw [rdT] at h
    split at h
    · next d s' e =>
      exact rdT_app rows ls ks _ b _ h
    · cases h
theorem Led.app {rows : List Th} {a b c : Nat} {ls ks : List Th} (h : Led rows a ls b) (k : Led rows b ks c) : Led rows a (ls ++ ks) c := by
  obtain ⟨m', e⟩ := rdT_app rows ls ks a b 0 h
  unfold Led
  rw [e, rdT_mv rows ks b m' 0]
  exact k
theorem Led.snoc {rows : List Th} {a b l : Nat} {m t : Int} {ls : List Th} (h : Led rows a ls b) (e : stepAt rows b l = .tup [.int m, .int t]) : Led rows a (ls ++ [.int (l : Nat)]) t.toNat := by
  refine Led.app h ?_
  unfold Led
  rw [rdT, show (num (.int (l : Nat))).toNat = l from Int.toNat_natCast l, e]
  rfl
theorem Led.len {z : Int} {rows : List Th} (ok : MOk z rows) {e : Nat} {ls : List Th} (h : Led rows 0 ls e) (he : isEnd rows e) : ∃ i, lenT rows ls = some i := by
  unfold Led at h
  unfold lenT
  generalize rdT rows 0 0 ls = R at h
  obtain ⟨m, so⟩ := R
  have h' : so = some e := h
  subst h'
  have hlt : e < rows.length := by
    by_cases hh : e < rows.length
    · exact hh
    · exact absurd (by rw [List.getElem?_eq_none (by omega)]; rfl) he
  obtain ⟨x, ss, er, h1, h2, h3⟩ := ok.row hlt
  unfold isEnd at he
  rw [er] at he
  rcases h1 with rfl | ⟨i, rfl, _⟩
  · exact absurd rfl he
  · refine ⟨m + i, ?_⟩
    rw [lastT, er]
    rfl
end KL
end
section
set_option maxHeartbeats 4000000
namespace KL
open PySem PySem.Spec PyProof.Rows L2
/-! ### t * n of any tuple, any small n -/
theorem mul_same (l : Addr) (items : Array Value) (n : Nat) (dd : Option Addr) (sl : Array (Option Value)) (x : Int) (u : Tok) (c0 : (decide (x < -(2 ^ 63)) || decide (x ≥ 2 ^ 63)) = false) (c1 : (items.isEmpty || x == 1) = true) :
    Meets (Builtin.«tuple.__mul__» ⟨[.ref l, .int x u], []⟩) (fun _ R s => s.heap.get? l = some { cls := .type "tuple", dict := dd, data := .seq items n, slots := sl } ∧ R (.ok (.ret (Value.ref l))) s) :=
  .of_wp fun prog w A R s h => by
    obtain ⟨hp, g, d, tk, os⟩ := s
    obtain ⟨hl, h⟩ := h
    have f1 := AutoSeq1.idx_int
    (wp_walk using wpAny_loadPart' hl); skip
    repeat (first
      | (refine wpAny_ite_false (decide_eq_false (by rw [c0]; exact Bool.false_ne_true)) ?_; wp_walk using wpAny_loadPart' hl)
      | (refine wpAny_ite_true (decide_eq_true c1) ?_; wp_walk using wpAny_loadPart' hl)); skip
    exact ⟨_, rfl, h⟩
theorem mul_none (l : Addr) (items : Array Value) (n : Nat) (dd : Option Addr) (sl : Array (Option Value)) (x : Int) (u : Tok) (c0 : (decide (x < -(2 ^ 63)) || decide (x ≥ 2 ^ 63)) = false) (c1 : (items.isEmpty || x == 1) = false) (c2 : (decide (x ≤ 0) || items.isEmpty) = true) :
    Meets (Builtin.«tuple.__mul__» ⟨[.ref l, .int x u], []⟩) (fun _ R s => s.heap.get? l = some { cls := .type "tuple", dict := dd, data := .seq items n, slots := sl } ∧ R (.ok (.ret (Value.ref s.heap.objs.size))) { s with heap := s.heap.push { cls := Value.type "tuple", data := Data.seq #[] }, toks := s.toks }) :=
  .of_wp fun prog w A R s h => by
    obtain ⟨hp, g, d, tk, os⟩ := s
    obtain ⟨hl, h⟩ := h
    have f1 := AutoSeq1.idx_int
    (wp_walk using wpAny_loadPart' hl); skip
    repeat (first
      | (refine wpAny_ite_false (decide_eq_false (by rw [c0]; exact Bool.false_ne_true)) ?_; wp_walk using wpAny_loadPart' hl)
      | (refine wpAny_ite_false (decide_eq_false (by rw [c1]; exact Bool.false_ne_true)) ?_; wp_walk using wpAny_loadPart' hl)
      | (refine wpAny_ite_true (decide_eq_true c2) ?_; wp_walk using wpAny_loadPart' hl)); skip
    exact ⟨_, rfl, h⟩
def repV {α : Type} (k : Int) (xs : List α) : List α := (List.replicate k.toNat xs).flatten
theorem repV_one {α : Type} (xs : List α) : repV 1 xs = xs := by
  show (xs ++ []) = xs
  rw [List.append_nil]
theorem repV_nil {α : Type} (k : Int) : repV k ([] : List α) = [] := by
  unfold repV
  induction k.toNat with
  | zero => rfl
  | succ n ih => rw [List.replicate_succ, List.flatten_cons, ih]; rfl
theorem repV_le {α : Type} {k : Int} (h : k ≤ 0) (xs : List α) : repV k xs = [] := by
  unfold repV
  rw [show k.toNat = 0 by omega]
  rfl
def rRepN (K : PySem.W.Frag) : R2 := fun x y H Q => ∃ l k xs, x = .ref l ∧ y = .int k ∧ SqT K H l xs ∧ -1000 ≤ k ∧ k ≤ 1000 ∧ xs.length ≤ 1000 ∧ (repV k xs = xs → Q (.ref l) H) ∧ ∀ p, H p = none → Q (.ref p) (upd H p (.tup (repV k xs)))
section
variable {X : Cx}
theorem op_repN : OpR X (binaryOp .Mult) (rRepN X.K) := by
  intro pins s σ H x y v u Q I rx ry h
  obtain ⟨l, k, xs, rfl, rfl, hT, h1, h2, hz, q0, q⟩ := h
  cases rx
  obtain ⟨t, rfl⟩ := ry
  obtain ⟨its, r, ⟨⟨cls, dd, data, sl⟩, ho, hc, n, hd⟩, hs⟩ := I.tuple hT
  simp only at hc hd
  subst hc hd
  have hle : its.length = xs.length := r.length.symm
  have c0 : (decide (k < -(2 ^ 63)) || decide (k ≥ 2 ^ 63)) = false := by
    rw [decide_eq_false (by omega), decide_eq_false (by omega)] <;> rfl
  have ie : its.toArray.isEmpty = xs.isEmpty := by
    cases its with
    | nil =>
      have : xs = [] := List.eq_nil_of_length_eq_zero (by rw [← hle]; rfl)
      rw [this]; rfl
    | cons a b =>
      cases xs with
      | nil => cases hle
      | cons c d => rfl
  refine wpAny_binaryOp_repeat_ref (T := "tuple") (U := "int") (by decide) ⟨_, ho, rfl⟩ (fun s' => typeIs_int s' k t) noFill_tuple_mul F.fills_int_mul F.slot_int_rmul repeat_tuple F.slot_int_index.lookup ?_
  refine call_meets F.slot_int_rmul (typeIs_int s k t) F.entry_int_rmul (F.args_int_rmul_2 _ _) (int_rmul_tuple k t l its.toArray n dd sl) ⟨ho, rfl, ⟨_, ho, rfl⟩, ?_⟩
  cases c1 : (its.toArray.isEmpty || k == 1) with
  | true =>
    refine call_meets F.slot_tuple_mul ⟨_, ho, rfl⟩ F.entry_tuple_mul (F.args_tuple_mul_2 _ _) (mul_same l its.toArray n dd sl k t c0 c1) ⟨ho, ⟨.ref l, H, I, rfl, q0 ?_⟩⟩
    rw [ie, Bool.or_eq_true] at c1
    rcases c1 with c1 | c1
    · rw [List.isEmpty_iff.mp c1, repV_nil]
    · rw [eq_of_beq c1, repV_one]
  | false =>
    have c1' := c1
    rw [Bool.or_eq_false_iff] at c1'
    by_cases k0 : k ≤ 0
    · have c2 : (decide (k ≤ 0) || its.toArray.isEmpty) = true := by rw [decide_eq_true k0]; rfl
      refine call_meets F.slot_tuple_mul ⟨_, ho, rfl⟩ F.entry_tuple_mul (F.args_tuple_mul_2 _ _) (mul_none l its.toArray n dd sl k t c0 c1 c2) ⟨ho, ?_⟩
      have q' := q _ (I.hok.fresh (Nat.le_refl _))
      rw [repV_le k0] at q'
      refine ⟨.ref s.heap.objs.size, _, I.laid (t' := s.toks) (o := .tup []) (fun b ob q => Heap.get?_push_of_some _ q) (Nat.le_refl _) ?_, rfl, q'⟩
      exact ⟨Nat.zero_le _, _, .nil, IsTup.new _ _⟩
    · have hsz0 : its.toArray.size = xs.length := by rw [List.size_toArray, hle]
      have hm : ((its.toArray.size : Nat) : Int) * k ≤ 1000000 := by
        rw [hsz0]
        have a1 : ((xs.length : Nat) : Int) * k ≤ 1000 * k := Int.mul_le_mul_of_nonneg_right (by omega) (by omega)
        omega
      have a1 : k.toNat * xs.length ≤ 1000 * 1000 := Nat.mul_le_mul (by omega) hz
      have flen : (List.replicate k.toNat its).flatten.length ≤ sizeLine := by
        rw [PyProof.Rows.lm_len_rep_flat, hle, sizeLine_eq]
        omega
      have c2 : (decide (k ≤ 0) || its.toArray.isEmpty) = false := by
        rw [c1'.1, Bool.or_false]
        exact decide_eq_false k0
      have c4 : Builtin.Tuple.tupleTooMany (((its.toArray.size : Nat) : Int) * k) = false := by
        unfold Builtin.Tuple.tupleTooMany
        rw [sizeLine_eq]
        exact decide_eq_false (by omega)
      refine call_meets F.slot_tuple_mul ⟨_, ho, rfl⟩ F.entry_tuple_mul (F.args_tuple_mul_2 _ _) (tuple_mulW l its.toArray n dd sl k t c0 c1 c2 (by omega) c4 (by rw [size_rep, List.size_toArray]; exact flen)) ⟨ho, ?_⟩
      rw [size_rep]
      refine ⟨.ref s.heap.objs.size, _, I.laid (t' := s.toks) (o := .tup (repV k xs)) (fun b ob q => Heap.get?_push_of_some _ q) (Nat.le_refl _) ?_, rfl, q _ (I.hok.fresh (Nat.le_refl _))⟩
      exact ⟨by rw [repV, PyProof.Rows.lm_len_rep_flat, sizeLine_eq]; omega, _, r.rep k.toNat, IsTup.new _ _⟩
end
end KL
end
section
set_option maxHeartbeats 1000000
namespace KL
open PySem PySem.Spec PyProof.Rows L2
/-! ### comprehensions over anything that stays -/
abbrev LcG (J : It) (g : TG) (tt : TT) (te : TE) (own : List Nat) (σ : L2.St) (H0 : Hp) (D : Addr) (Qd : Hp → Prop) : Prop :=
  ∃ W : Nat → Nat → Hp → Prop, (∃ m, W 0 m (upd H0 D (.lst []))) ∧ ∀ i m H, W i m H → ((J.stop i H ∧ Qd H) ∨ (J.go i H ∧ ∃ Nx : Hp → Prop, (∀ H', Nx H' → ∃ m', m' < m ∧ W (i + 1) m' H') ∧
    ∀ x H', J.yld i H x H' → g x (wipe σ own) H' fun σ2 H2 => wipe σ2 own = wipe σ own ∧ tt σ2 H2 fun b H3 => if b = true then (te σ2 H3 fun y H4 => ∃ acc, H4 D = some (.lst acc) ∧ acc.length < sizeLine ∧ Nx (upd H4 D (.lst (acc ++ [y])))) else Nx H3))
/-- values told of those of which p tells True -/
theorem lc_valW {J : It} {n : Nat} {G : Hp → Prop} {Y : Nat → Hp → V → Hp → Prop} {X : Nat → V → Prop} {H : Hp} {f : Nat → V} {p : Nat → Bool} {i : Nat} {own : List Nat} {tt : TT} {te : TE} {σ : L2.St} {Q : Addr → Hp → Prop}
    (w : Walk J n G Y) (hY : ∀ j H1 x H2, Y j H1 x H2 → H2 = H1 ∧ X j x) (hG : ∀ H', Same H H' → G H') (hn : n ≤ 1000000) (hw : ∀ x, wipe ((wipe σ own).set i (some x)) own = wipe σ own)
    (ht : ∀ j x H2, j < n → X j x → Same H H2 → ∀ R : Bool → Hp → Prop, (∀ H3, Same H2 H3 → R (p j) H3) → tt ((wipe σ own).set i (some x)) H2 R)
    (hs : ∀ j x H2, j < n → X j x → p j = true → Same H H2 → ∀ R : VK, (∀ H3, Same H2 H3 → R (f j) H3) → te ((wipe σ own).set i (some x)) H2 R)
    (hd : ∀ D H', Same H H' → H D = none → H' D = some (.lst (((List.range n).filter p).map f)) → Q D H') : ∀ D, H D = none → LcG J (gName i) tt te own σ H D (Q D) := by
  intro D hD
  refine lc_it w (fun j H' => Same H H' ∧ H' D = some (.lst (((List.range j).filter p).map f))) ⟨same_new hD _, upd_same⟩ (fun j H' _ q => hG H' q.1) (fun j x H1 H' hj q y => ?_) (fun H' q => hd D H' q.1 hD q.2)
  obtain ⟨rfl, ex⟩ := hY _ _ _ _ y
  refine ⟨hw x, ht j x H' hj ex q.1 _ fun H3 s3 => ?_⟩
  have lf : (((List.range j).filter p).map f).length < sizeLine := by
    rw [List.length_map, sizeLine_eq]
    have := List.length_filter_le p (List.range j)
    rw [List.length_range] at this
    omega
  cases hp : p j with
  | true =>
    refine iteT (hs j x H3 hj ex hp (q.1.trans s3) _ fun H4 s4 => ⟨_, s4 _ _ (s3 _ _ q.2), lf, Same.upd_new (q.1.trans (s3.trans s4)) hD _, ?_⟩)
    rw [upd_same, List.range_succ, List.filter_append, List.filter_cons, if_pos hp, List.map_append]
    rfl
  | false =>
    refine iteF ⟨q.1.trans s3, ?_⟩
    rw [s3 _ _ q.2, List.range_succ, List.filter_append, List.filter_cons, if_neg (by rw [hp]; exact Bool.false_ne_true), List.filter_nil, List.append_nil]
/-- new things -/
theorem lc_newW {J : It} {n : Nat} {G : Hp → Prop} {Y : Nat → Hp → V → Hp → Prop} {X : Nat → V → Prop} {H : Hp} {f : Nat → Th} {i : Nat} {own : List Nat} {te : TE} {σ : L2.St} {Q : Addr → Hp → Prop}
    (w : Walk J n G Y) (hY : ∀ j H1 x H2, Y j H1 x H2 → H2 = H1 ∧ X j x) (hG : ∀ H', Same H H' → G H') (hn : n ≤ 1000000) (hw : ∀ x, wipe ((wipe σ own).set i (some x)) own = wipe σ own)
    (hs : ∀ j x H2, j < n → X j x → Same H H2 → ∀ R : VK, (∀ v H3, Same H2 H3 → At (Trk H2) H3 (f j) v → R v H3) → te ((wipe σ own).set i (some x)) H2 R)
    (hd : ∀ D H' vs, Same H H' → H D = none → H' D = some (.lst vs) → AtAll (fun a => a = D ∨ Trk H a) H' ((List.range n).map f) vs → Q D H') : ∀ D, H D = none → LcG J (gName i) tYes te own σ H D (Q D) := by
  intro D hD
  refine lc_it w (fun j H' => Same H H' ∧ ∃ vs, H' D = some (.lst vs) ∧ AtAll (fun a => a = D ∨ Trk H a) H' ((List.range j).map f) vs) ⟨same_new hD _, [], upd_same, .nil⟩ (fun j H' _ q => hG H' q.1) (fun j x H1 H' hj q y => ?_) (fun H' q => ?_)
  · obtain ⟨rfl, ex⟩ := hY _ _ _ _ y
    obtain ⟨s1, vs, eD, aD⟩ := q
    refine ⟨hw x, iteT (B := False) (hs j x H' hj ex s1 _ fun v H3 s3 a3 => ⟨vs, s3 _ _ eD, ?_, Same.upd_new (s1.trans s3) hD _, vs ++ [v], upd_same, ?_⟩)⟩
    · rw [aD.len, List.length_map, List.length_range, sizeLine_eq]; omega
    · have sD : SB (fun a => a = D ∨ Trk H a) H3 (upd H3 D (.lst (vs ++ [v]))) := .self (Z := fun a => a = D ∨ Trk H a) (.inl rfl) _
      rw [List.range_succ, List.map_append]
      refine AtAll.append ((aD.same s3).sb sD) (.cons ((a3.less fun a h => ?_).sb sD) .nil)
      rcases h with rfl | h
      · exact .of eD
      · exact Trk.same s1 h
  · obtain ⟨s1, vs, eD, aD⟩ := q
    exact hd D H' vs s1 hD eD aD
/-- things that are not in Z -/
theorem lc_newZ {J : It} {n : Nat} {G : Hp → Prop} {Y : Nat → Hp → V → Hp → Prop} {X : Nat → V → Prop} {H : Hp} {Z : Zone} {f : Nat → Th} {i : Nat} {own : List Nat} {te : TE} {σ : L2.St} {Q : Addr → Hp → Prop}
    (w : Walk J n G Y) (hY : ∀ j H1 x H2, Y j H1 x H2 → H2 = H1 ∧ X j x) (hG : ∀ H', Same H H' → G H') (hn : n ≤ 1000000) (hw : ∀ x, wipe ((wipe σ own).set i (some x)) own = wipe σ own)
    (hs : ∀ D, H D = none → ∀ j x H2, j < n → X j x → Same H H2 → Trk H2 D → ∀ R : VK, (∀ v H3, Same H2 H3 → At (fun a => a = D ∨ Z a) H3 (f j) v → R v H3) → te ((wipe σ own).set i (some x)) H2 R)
    (hd : ∀ D H' vs, Same H H' → H D = none → H' D = some (.lst vs) → AtAll (fun a => a = D ∨ Z a) H' ((List.range n).map f) vs → Q D H') : ∀ D, H D = none → LcG J (gName i) tYes te own σ H D (Q D) := by
  intro D hD
  refine lc_it w (fun j H' => Same H H' ∧ ∃ vs, H' D = some (.lst vs) ∧ AtAll (fun a => a = D ∨ Z a) H' ((List.range j).map f) vs) ⟨same_new hD _, [], upd_same, .nil⟩ (fun j H' _ q => hG H' q.1) (fun j x H1 H' hj q y => ?_) (fun H' q => ?_)
  · obtain ⟨rfl, ex⟩ := hY _ _ _ _ y
    obtain ⟨s1, vs, eD, aD⟩ := q
    refine ⟨hw x, iteT (B := False) (hs D hD j x H' hj ex s1 (.of eD) _ fun v H3 s3 a3 => ⟨vs, s3 _ _ eD, ?_, Same.upd_new (s1.trans s3) hD _, vs ++ [v], upd_same, ?_⟩)⟩
    · rw [aD.len, List.length_map, List.length_range, sizeLine_eq]; omega
    · have sD : SB (fun a => a = D ∨ Z a) H3 (upd H3 D (.lst (vs ++ [v]))) := .self (Z := fun a => a = D ∨ Z a) (.inl rfl) _
      rw [List.range_succ, List.map_append]
      exact AtAll.append ((aD.same s3).sb sD) (.cons (a3.sb sD) .nil)
  · obtain ⟨s1, vs, eD, aD⟩ := q
    exact hd D H' vs s1 hD eD aD
theorem range_map_get {α β : Type} (g : α → β) (d : α) (xs : List α) : (List.range xs.length).map (fun j => g ((xs[j]?).getD d)) = xs.map g := by
  refine List.ext_getElem? fun j => ?_
  rw [List.getElem?_map, List.getElem?_map]
  by_cases h : j < xs.length
  · rw [List.getElem?_range h]
    show some (g ((xs[j]?).getD d)) = _
    rw [List.getElem?_eq_getElem h]
    rfl
  · rw [List.getElem?_eq_none (by rw [List.length_range]; omega), List.getElem?_eq_none (by omega)]
    rfl
theorem walk_enumT {K : PySem.W.Frag} {a : Addr} {xs : List V} : Walk (IteT K a) xs.length (fun H => SqT K H a xs) (YPair (fun i => some (.int (i : Nat))) (fun i => xs[i]?)) := by
  refine ⟨fun i _ hi q => ⟨xs, xs[i], q, by simp [hi]⟩, fun _ q => ⟨xs, q, Nat.le_refl _⟩, fun i H v H' _ q y => ?_⟩
  obtain ⟨T, x, h1, h2, h3, h4⟩ := y
  exact ⟨T, .int (i : Nat), x, h1, h2, h3, rfl, h4 xs q⟩
/-- a dict made over anything that stays -/
theorem dc_it {J : It} {n : Nat} {G : Hp → Prop} {Y : Nat → Hp → V → Hp → Prop} (w : Walk J n G Y) {g : TG} {tt : TT} {tk tv : TE} {own : List Nat} {σ : L2.St} {H1 : Hp} {D : Addr} {Qd : Hp → Prop} (Pv : Nat → Hp → Prop) (h0 : Pv 0 (upd H1 D (.dK []))) (hG : ∀ i H, i ≤ n → Pv i H → G H)
    (hs : ∀ i x H H', i < n → Pv i H → Y i H x H' → g x (wipe σ own) H' fun σ2 H2 => wipe σ2 own = wipe σ own ∧ tt σ2 H2 fun b H3 =>
      if b = true then (tk σ2 H3 fun y H4 => tv σ2 H4 fun z H5 => ∃ kvs k, y = kV k ∧ H5 D = some (.dK kvs) ∧ kvs.length < sizeLine ∧ Pv (i + 1) (upd H5 D (.dK (putK kvs k z)))) else Pv (i + 1) H3) (hd : ∀ H, Pv n H → Qd H) :
    ∃ W : Nat → Nat → Hp → Prop, (∃ m, W 0 m (upd H1 D (.dK []))) ∧ ∀ i m H, W i m H → ((J.stop i H ∧ Qd H) ∨ (J.go i H ∧ ∃ Nx : Hp → Prop, (∀ H', Nx H' → ∃ m', m' < m ∧ W (i + 1) m' H') ∧
      ∀ x H', J.yld i H x H' → g x (wipe σ own) H' fun σ2 H2 => wipe σ2 own = wipe σ own ∧ tt σ2 H2 fun b H3 => if b = true then (tk σ2 H3 fun y H4 => tv σ2 H4 fun z H5 => ∃ kvs k, y = kV k ∧ H5 D = some (.dK kvs) ∧ kvs.length < sizeLine ∧ Nx (upd H5 D (.dK (putK kvs k z)))) else Nx H3)) := by
  refine ⟨fun i m H => m = n - i ∧ i ≤ n ∧ Pv i H, ⟨n, by simp, Nat.zero_le _, h0⟩, ?_⟩
  rintro i m H ⟨rfl, hi, p⟩
  have q := hG i H hi p
  by_cases hlt : i < n
  · exact .inr ⟨w.goes i H hlt q, Pv (i + 1), fun H' p' => ⟨n - (i + 1), by omega, rfl, hlt, p'⟩, fun x H' y => hs i x H H' hlt p (w.yields i H x H' hlt q y)⟩
  · have e : i = n := by omega
    subst e
    exact .inl ⟨w.stops H q, hd H p⟩
/-! ### small facts -/
theorem get_snoc {α : Type} {as : List α} {x a : α} {i : Nat} (h : (as ++ [x])[i]? = some a) : as[i]? = some a ∨ (i = as.length ∧ a = x) := by
  rw [List.getElem?_append] at h
  split at h
  · exact .inl h
  · next hi =>
    have h2 := (List.getElem?_eq_some_iff.mp h)
    obtain ⟨hl, e⟩ := h2
    have : i - as.length = 0 := by simpa using hl
    refine .inr ⟨by omega, ?_⟩
    rw [← e]
    simp
/-- a step as it lies at its place -/
theorem st_get {Z : Zone} {H : Hp} {ss : List Th} {vs : List V} {n : Int} {j : Nat} {w : V} (a : AtAll Z H ss vs) (h : ∀ st ∈ ss, StepIs n st) (e : vs[j]? = some w) :
    (ss[j]? = some .non ∧ w = .non) ∨ ∃ q m s', ss[j]? = some (.tup [.int m, .int s']) ∧ w = .ref q ∧ H q = some (.tup [.int m, .int s']) ∧ ¬ Z q ∧ 0 ≤ m ∧ m ≤ 60 ∧ 0 ≤ s' ∧ s' < n := by
  obtain ⟨d, ed, hd⟩ := a.get e
  rcases h d (List.mem_of_getElem? ed) with rfl | ⟨m, s', rfl, m0, m1, s0, s1⟩
  · exact .inl ⟨ed, hd⟩
  · obtain ⟨q, us, rfl, nq, eq', u1, us1, rfl, r1, u2, us2, rfl, r2, a3⟩ := hd
    cases r1; cases r2
    rw [show us2 = [] from a3] at eq'
    exact .inr ⟨q, m, s', ed, rfl, eq', nq, m0, m1, s0, s1⟩
/-- a step that lies alone -/
theorem st_at {Z : Zone} {H : Hp} {st : Th} {w : V} {n : Int} (hd : At Z H st w) (h : StepIs n st) :
    (st = .non ∧ w = .non) ∨ ∃ q m s', st = .tup [.int m, .int s'] ∧ w = .ref q ∧ H q = some (.tup [.int m, .int s']) ∧ ¬ Z q ∧ 0 ≤ m ∧ m ≤ 60 ∧ 0 ≤ s' ∧ s' < n := by
  rcases h with rfl | ⟨m, s', rfl, m0, m1, s0, s1⟩
  · exact .inl ⟨rfl, hd⟩
  · obtain ⟨q, us, rfl, nq, eq', u1, us1, rfl, r1, u2, us2, rfl, r2, a3⟩ := hd
    cases r1; cases r2
    rw [show us2 = [] from a3] at eq'
    exact .inr ⟨q, m, s', rfl, rfl, eq', nq, m0, m1, s0, s1⟩
theorem nd_inj {α : Type} [BEq α] [LawfulBEq α] {as : List α} (nd : as.Nodup) {i j : Nat} {a : α} (h1 : as[i]? = some a) (h2 : as[j]? = some a) : i = j := by
  obtain ⟨l1, q1⟩ := List.getElem?_eq_some_iff.mp h1
  obtain ⟨l2, q2⟩ := List.getElem?_eq_some_iff.mp h2
  have e1 := nd.idxOf_getElem i l1
  have e2 := nd.idxOf_getElem j l2
  rw [q1] at e1
  rw [q2] at e2
  exact e1.symm.trans e2
end KL
end
section
set_option maxHeartbeats 1000000
namespace KL
open PySem PySem.Spec PyProof.Rows L2
abbrev sc_nextsN : List Str := ["rows", "end", "steps", "step"]
abbrev s_nexts : Stmt := topS 23
theorem sc_nexts : FnScope ["rows", "end", "steps", "step"] ["rows"] (defScope s_nexts) := ⟨rfl, rfl, rfl, by decide +kernel, rfl, by decide +kernel, by decide +kernel⟩
def cs_nexts : Scope := match defBody s_nexts with
  | [.Return (some (.ListComp _ _ sc _)) _] => sc
  | _ => defScope s_nexts
abbrev sc_beforesN : List Str := ["rows", "found", "state", "followers", "follower", "row"]
abbrev s_befores : Stmt := topS 24
theorem sc_befores : FnScope ["rows", "found", "state", "followers", "follower", "row"] ["rows"] (defScope s_befores) := ⟨rfl, rfl, rfl, by decide +kernel, rfl, by decide +kernel, by decide +kernel⟩
/-- a list of lists, all of them new -/
def LLn (H0 H : Hp) (W : Addr) (ways : List (List Nat)) : Prop := ∃ as : List Addr, H W = some (.lst (as.map V.ref)) ∧ as.length = ways.length ∧ ∀ (i : Nat) (a : Addr) (ws : List Nat), as[i]? = some a → ways[i]? = some ws → H0 a = none ∧ H a = some (.lst (ws.map nV))
theorem LLn.ll {H0 H : Hp} {W : Addr} {ways : List (List Nat)} (h : LLn H0 H W ways) : LL H W ways :=
  let ⟨as, e, l, q⟩ := h
  ⟨as, e, l, fun i a ws ha hw => (q i a ws ha hw).2⟩
/-- a machine's rows as they lie -/
def spNexts : Sp := fun vs H Q _ => ∃ (Z : Zone) (pr : Addr) (us : List V) (z : Int) (rows : List Th), vs = [.ref pr] ∧ H pr = some (.tup us) ∧ AtAll Z H rows us ∧ MOk z rows ∧ ∀ N H', Same H H' → H N = none → LLn H H' N (nxs rows) → Q (.ref N) H'
def spBefores : Sp := fun vs H Q _ => ∃ (Z : Zone) (pr : Addr) (us : List V) (z : Int) (rows : List Th), vs = [.ref pr] ∧ H pr = some (.tup us) ∧ AtAll Z H rows us ∧ MOk z rows ∧ ∀ N (bs : List (List Nat)) H', Same H H' → H N = none → LL H' N bs → bs.length = rows.length → (∀ i t : Nat, t ∈ (bs[i]?).getD [] ↔ i ∈ ((nxs rows)[t]?).getD []) → Q (.ref N) H'
section
variable {P : Program} {w : World} {K : PySem.W.Frag} {mg : Str → Option Value} {base : Heap} {k : Nat}
theorem ok_nexts (d : Def K mg "nexts" s_nexts ["rows"]) : Cal P w K mg base CX0 (k + 1) "nexts" ["rows"] spNexts := by
  refine d.ok sc_nexts (fun vs H Q E h => ?_) (fun f cdv A outer s H vs Q E hr h => ?_)
  · obtain ⟨_, _, _, _, _, rfl, _⟩ := h; rfl
  obtain ⟨Z, pr, us, z, rows, rfl, epr, ar, ok, q⟩ := h
  refine ⟨_, (pss_one (ps_ret (pe_lc (own := [("end", 1), ("steps", 2)]) (g := (gTup K 2 (gCons (gName 1) (gCons (gName 2) gNil)))) (tt := tYes) rfl sc_nexts.nd (pi_tup (pv 0)) (blkOk_by (N := ["rows", "end", "steps", "step"]) (sc := defScope s_nexts) (by decide +kernel)) (fun _ _ _ _ _ => (pg_tup (by rfl) (pgs_cons (pg_name (i := 1) sc_nexts.nd rfl (Or.inl rfl)) (pgs_cons (pg_name (i := 2) sc_nexts.nd rfl (Or.inl rfl)) pgs_nil)))) (fun _ _ _ _ _ => pts_nil) (fun _ _ _ _ _ => (pe_lc (wi := iTup K (tVar 2)) (tt := tTest (tOp (fun x y H Q => y = .non ∧ Q (.bl (!decide (x = .non))) H) (tVar 3) (tC .non))) (own := [("step", 3)]) (g := gName 3) rfl sc_nexts.nd (pi_tup (pv 2)) (blkOk_by (N := ["rows", "end", "steps", "step"]) (sc := relS cs_nexts (defScope s_nexts)) (by decide +kernel)) (fun _ _ _ _ _ => (pg_name (i := 3) sc_nexts.nd rfl (Or.inl rfl))) (fun _ _ _ _ _ => (pts_one (pt_cmpR op_notN (pv 3) pe_non (nomark _)))) (fun _ _ _ _ _ => (pe_ix (r := rIxT K) ix_tup (pv 3) pe_int (fun _ _ => rfl)))))))), ?_⟩
  refine ⟨_, rfl, pr, rfl, ⟨_, .of epr⟩, fun D hD => lc_tup (xs := us) (fun j H' => Same H H' ∧ ∃ as : List Addr, H' D = some (.lst (as.map V.ref)) ∧ as.length = j ∧ ∀ (i : Nat) (a : Addr) (ws : List Nat), as[i]? = some a → (nxs rows)[i]? = some ws → a ≠ D ∧ H a = none ∧ H' a = some (.lst (ws.map nV)))
    ⟨same_new hD _, [], upd_same, rfl, fun i a ws h => nomatch h⟩ (fun j H' _ p' => .of (p'.1 _ _ epr)) (fun j x H' ex p' => ?_) (fun H1 p1 => ?_)⟩
  · obtain ⟨s', as, eD, la, ha⟩ := p'
    have hj : j < rows.length := by rw [← ar.len]; exact (List.getElem?_eq_some_iff.mp ex).1
    obtain ⟨pu, ve, ps, vs, e, ss, b1, b2, b3, b4, b5, b6, b7, b8, b9⟩ := row_at (ar.same s') ok hj
    rw [b1] at ex; cases ex
    refine ⟨pu, _, rfl, .of b2, rfl, ve, _, rfl, _, _, rfl, rfl, rfl, iteT (B := False) ?_⟩
    refine ⟨_, rfl, ps, rfl, ⟨_, .of b3⟩, fun D2 hD2 => lc_tup (xs := vs) (fun j2 G => Same H' G ∧ G D2 = some (.lst (((ss.take j2).filterMap tgt).map nV))) ⟨same_new hD2 _, upd_same⟩ (fun j2 G _ p2 => .of (p2.1 _ _ b3)) (fun j2 x2 G ex2 p2 => ?_) (fun G p2 => ?_)⟩
    · obtain ⟨sG, eD2⟩ := p2
      have z8 := ok.z8
      have lj : j2 < ss.length := by rw [← b8.len]; exact (List.getElem?_eq_some_iff.mp ex2).1
      have lf : (((ss.take j2).filterMap tgt).map nV).length < sizeLine := by
        rw [List.length_map, sizeLine_eq]
        have := List.length_filterMap_le tgt (ss.take j2)
        rw [List.length_take] at this
        omega
      refine ⟨rfl, _, rfl, rfl, _, rfl, ?_⟩
      rcases st_get (b8.same sG) b9 ex2 with ⟨f1, rfl⟩ | ⟨q2, m, s2, f1, rfl, f2, _, m0, m1, s0, s1⟩
      · refine iteF ⟨sG, ?_⟩
        rw [List.take_add_one, f1, List.filterMap_append]
        show G D2 = some (.lst (((List.take j2 ss).filterMap tgt ++ []).map nV))
        rw [List.append_nil]
        exact eD2
      · refine iteT ⟨_, rfl, q2, _, 1, .int s2, rfl, rfl, .of f2, rfl, _, eD2, lf, Same.upd_new sG hD2 _, ?_⟩
        rw [upd_same, List.take_add_one, f1, List.filterMap_append, List.map_append]
        show some (HO.lst (_ ++ [V.int s2])) = some (HO.lst (_ ++ [V.int ((s2.toNat : Nat) : Int)]))
        rw [show ((s2.toNat : Nat) : Int) = s2 by omega]
    · obtain ⟨sG, eD2⟩ := p2
      rw [b8.len, List.take_length] at eD2
      have n30 := ok.n30
      refine ⟨as.map V.ref, sG _ _ eD, by rw [List.length_map, la, sizeLine_eq]; omega, Same.upd_new (s'.trans sG) hD _, as ++ [D2], by rw [upd_same, List.map_append]; rfl, by rw [List.length_append, la]; rfl, fun i a ws ei ew => ?_⟩
      have nD : D2 ≠ D := fun e => by rw [e, eD] at hD2; cases hD2
      rcases get_snoc ei with h | ⟨rfl, rfl⟩
      · obtain ⟨n, na, ea⟩ := ha i a ws h ew
        exact ⟨n, na, by rw [upd_ne n]; exact sG _ _ ea⟩
      · rw [la, nxs_get b4] at ew
        cases ew
        exact ⟨nD, Same.free s' hD2, by rw [upd_ne nD]; exact eD2⟩
  · obtain ⟨s', as, eD, la, ha⟩ := p1
    exact q D H1 s' hD ⟨as, eD, by rw [la, nxs_len, ar.len], fun i a ws ea ew => (ha i a ws ea ew).2⟩
theorem ok_befores (Z : Zs mg) (c_nexts : Cal P w K mg base CX0 k "nexts" ["rows"] spNexts) (d : Def K mg "befores" s_befores ["rows"]) : Cal P w K mg base CX0 (k + 1) "befores" ["rows"] spBefores := by
  refine d.ok sc_befores (fun vs H Q E h => ?_) (fun f cdv A outer s H vs Q E hr h => ?_)
  · obtain ⟨_, _, _, _, _, rfl, _⟩ := h; rfl
  obtain ⟨Zn, pr, us, z, rows, rfl, epr, ar, ok, q⟩ := h
  refine ⟨_, (pss_cons (ps_setLc (i := 1) (own := [("row", 5)]) (g := gName 5) (tt := tYes) rfl sc_befores.nd rfl rfl (sw_true rfl rfl rfl (by decide +kernel)) (pi_tup (pv 0)) (blkOk_by (N := ["rows", "found", "state", "followers", "follower", "row"]) (sc := defScope s_befores) (by decide +kernel)) (fun _ _ _ _ _ => (pg_name (i := 5) sc_befores.nd rfl (Or.inl rfl))) (fun _ _ _ _ _ => pts_nil) (fun _ _ _ _ _ => (pe_lst pa_nil)))
      (pss_cons (ps_for PassesOwn.never rfl (pi_enum (by rfl) Z.enumerate (pa_cons (pe_cal c_nexts hr (by rfl) (pa_cons (pv 0) pa_nil)) pa_nil)) (pg_tup (by rfl) (pgs_cons (pg_name (i := 2) sc_befores.nd rfl (Or.inl rfl)) (pgs_cons (pg_name (i := 3) sc_befores.nd rfl (Or.inl rfl)) pgs_nil))) (pss_one (ps_for PassesOwn.never rfl (pi_list (pv 3)) (pg_name (i := 4) sc_befores.nd rfl (Or.inl rfl)) (pss_one (ps_expr (pe_bm PySem.F.plainAttrs_list PySem.F.slot_list_append PySem.F.type_list_append mt_append (pe_ix ix_list (pv 1) (pv 4) (fun _ _ => rfl)) (pa_cons (pv 2) pa_nil)))))))
      (pss_one (ps_ret (pv 1))))), ?_⟩
  have n30 := ok.n30
  -- found
  refine ⟨_, rfl, pr, rfl, ⟨_, .of epr⟩, fun D hD => lc_tup (xs := us) (fun j H' => Same H H' ∧ ∃ as : List Addr, H' D = some (.lst (as.map V.ref)) ∧ as.length = j ∧ as.Nodup ∧ ∀ a ∈ as, a ≠ D ∧ H a = none ∧ H' a = some (.lst []))
    ⟨same_new hD _, [], upd_same, rfl, List.nodup_nil, fun a h => nomatch h⟩ (fun j H' _ p' => .of (p'.1 _ _ epr)) (fun j x H' ex p' => ?_) (fun H1 p1 => ?_)⟩
  · obtain ⟨s', as, eD, la, nd, ha⟩ := p'
    have hj : j < rows.length := by rw [← ar.len]; exact (List.getElem?_eq_some_iff.mp ex).1
    refine ⟨rfl, iteT (B := False) ⟨(by show 0 ≤ sizeLine; decide), fun R nR => ?_⟩⟩
    have zR := same_new nR (.lst [])
    have nRD : R ≠ D := fun e => by rw [e, eD] at nR; cases nR
    refine ⟨as.map V.ref, zR _ _ eD, by rw [List.length_map, la, sizeLine_eq]; omega, Same.upd_new (s'.trans zR) hD _, as ++ [R], by rw [upd_same, List.map_append]; rfl, by rw [List.length_append, la]; rfl, ?_, fun a ma => ?_⟩
    · refine List.nodup_append.mpr ⟨nd, by simp, fun a ma b mb e => ?_⟩
      rw [List.mem_singleton.mp mb] at e
      subst e
      have := (ha a ma).2.2
      rw [nR] at this
      cases this
    · rcases List.mem_append.mp ma with ma | ma
      · obtain ⟨n1, n2, e⟩ := ha a ma
        exact ⟨n1, n2, by rw [upd_ne n1]; exact zR _ _ e⟩
      · rw [List.mem_singleton.mp ma]
        exact ⟨nRD, Same.free s' nR, by rw [upd_ne nRD]; exact upd_same⟩
  obtain ⟨s1, as, eD, la, nd, ha⟩ := p1
  have la' : as.length = rows.length := by rw [la, ar.len]
  -- for state, followers in enumerate(nexts(rows))
  refine ⟨_, rfl, Zn, pr, us, z, rows, rfl, s1 _ _ epr, ar.same s1, ok, fun N H2 s2 nN ll => ?_⟩
  obtain ⟨cs, eN, lc, hc⟩ := ll
  have lc' : cs.length = rows.length := by rw [lc, nxs_len]
  have dis : ∀ a ∈ as, H1 a ≠ none := fun a ma e => by rw [(ha a ma).2.2] at e; cases e
  have nNas : N ∉ as := fun m => dis N m nN
  have nDas : D ∉ as := fun m => (ha D m).1 rfl
  refine ⟨N, _, rfl, .of eN, for_it walk_enum (fun i σ' H' => SB (fun a => a ∈ as) H2 H' ∧ ∃ (bs : List (List Nat)) (y2 y3 y4 : Option V), σ' = [some (.ref pr), some (.ref D), y2, y3, y4, none] ∧ bs.length = rows.length ∧ (∀ (m : Nat) (a : Addr) (ws : List Nat), as[m]? = some a → bs[m]? = some ws → H' a = some (.lst (ws.map nV)) ∧ ws.length ≤ 8 * i) ∧ (∀ m t : Nat, t ∈ (bs[m]?).getD [] ↔ t < i ∧ m ∈ ((nxs rows)[t]?).getD []))
    ⟨.rfl', List.replicate rows.length [], none, none, none, rfl, List.length_replicate, fun m a ws em ew => ?_, fun m t => ?_⟩ (fun i σ' H' _ p' => .of (p'.1 _ _ nNas eN)) (fun i x σ' H0 H' hi p' y => ?_) (fun σ' H' p' => ?_)⟩
  · rw [List.getElem?_replicate] at ew
    split at ew
    · cases ew
      exact ⟨s2 _ _ (ha a (List.mem_of_getElem? em)).2.2, Nat.zero_le _⟩
    · cases ew
  · rw [List.getElem?_replicate]
    constructor
    · intro h
      split at h <;> exact absurd h (by simp)
    · intro h; omega
  · obtain ⟨sB, bs, y2, y3, y4, rfl, lb, hb, hm⟩ := p'
    obtain ⟨T, x1, x2, rfl, nT, rfl, e1, e2⟩ := y
    cases e1
    rw [List.length_map, lc'] at hi
    obtain ⟨ca, ec, rfl⟩ := map_get e2
    have ew : (nxs rows)[i]? = some ((nxs rows)[i]'(by rw [nxs_len]; exact hi)) := List.getElem?_eq_getElem _
    generalize (nxs rows)[i]'(by rw [nxs_len]; exact hi) = ws at ew
    obtain ⟨nca, eca⟩ := hc i ca ws ec ew
    have ncas : ca ∉ as := fun m => dis ca m nca
    have zT := same_new nT (.tup [V.int (i : Nat), V.ref ca])
    have lws : ws.length ≤ 8 := by
      obtain ⟨e, ss, er, h1, h2, h3⟩ := ok.row hi
      rw [nxs_get er] at ew
      cases ew
      have := List.length_filterMap_le tgt ss
      have := ok.z8
      show (ss.filterMap tgt).length ≤ 8
      omega
    refine ⟨T, _, rfl, .of upd_same, rfl, _, _, rfl, _, _, rfl, rfl, ?_⟩
    have sB1 : SB (fun a => a ∈ as) H2 (upd H0 T (.tup [V.int (i : Nat), V.ref ca])) := sB.trans (.of zT)
    refine ⟨_, rfl, ca, rfl, ⟨_, .of (sB1 _ _ ncas eca)⟩, for_list (xs := ws.map nV) (fun j σ' H' => SB (fun a => a ∈ as) H2 H' ∧ ∃ (bs : List (List Nat)) (y4 : Option V), σ' = [some (.ref pr), some (.ref D), some (.int (i : Nat)), some (.ref ca), y4, none] ∧ bs.length = rows.length ∧ (∀ (m : Nat) (a : Addr) (ws : List Nat), as[m]? = some a → bs[m]? = some ws → H' a = some (.lst (ws.map nV)) ∧ ws.length ≤ 8 * i + j) ∧ (∀ m t : Nat, t ∈ (bs[m]?).getD [] ↔ (t < i ∧ m ∈ ((nxs rows)[t]?).getD []) ∨ (t = i ∧ m ∈ ws.take j)))
      ⟨sB1, bs, _, rfl, lb, fun m a ws em ew => ⟨zT _ _ (hb m a ws em ew).1, (hb m a ws em ew).2⟩, fun m t => by rw [hm, List.take_zero]; simp⟩ (fun j σ' H' _ p' => .of (p'.1 _ _ ncas eca)) (fun j x σ' H' ex p' => ?_) (fun σ' H' p' => ?_)⟩
    · obtain ⟨sC, bs, y4, rfl, lb, hb, hm⟩ := p'
      obtain ⟨t, et, rfl⟩ := map_get ex
      have lt : t < rows.length := by
        have := ok.nx_lt i ws ew t (List.mem_of_getElem? et)
        rwa [nxs_len] at this
      have lj : j < 8 := Nat.lt_of_lt_of_le (List.getElem?_eq_some_iff.mp et).1 lws
      have ea : as[t]? = some (as[t]'(by rw [la']; exact lt)) := List.getElem?_eq_getElem _
      generalize as[t]'(by rw [la']; exact lt) = af at ea
      have eb : bs[t]? = some (bs[t]'(by rw [lb]; exact lt)) := List.getElem?_eq_getElem _
      generalize bs[t]'(by rw [lb]; exact lt) = wt at eb
      obtain ⟨eaf, law⟩ := hb t af wt ea eb
      have maf := List.mem_of_getElem? ea
      refine ⟨_, rfl, _, rfl, D, _, (t : Int), .ref af, rfl, rfl, .of (sC _ _ nDas (s2 _ _ eD)), atI_nat (get_map ea), .inl ⟨rfl, _, .inl (.inl eaf)⟩, _, rfl, af, _, nV i, rfl, rfl, eaf, by rw [List.length_map, sizeLine_eq]; omega, ?_⟩
      refine ⟨sC.trans (.self (Z := fun a => a ∈ as) maf _), bs.set t (wt ++ [i]), _, rfl, by rw [List.length_set]; exact lb, fun m a ws2 em ew2 => ?_, fun m u => ?_⟩
      · by_cases hmt : t = m
        · subst hmt
          rw [List.getElem?_set_self (by rw [lb]; exact lt)] at ew2
          rw [ea] at em
          cases em; cases ew2
          exact ⟨by rw [upd_same, List.map_append]; rfl, by rw [List.length_append, List.length_singleton]; omega⟩
        · rw [List.getElem?_set_ne hmt] at ew2
          obtain ⟨e3, l3⟩ := hb m a ws2 em ew2
          have na : a ≠ af := fun e => by
            subst e
            exact hmt (nd_inj nd ea em)
          exact ⟨by rw [upd_ne na]; exact e3, by omega⟩
      · have tk : ws.take (j + 1) = ws.take j ++ [t] := by rw [List.take_add_one, et]; rfl
        by_cases hmt : t = m
        · subst hmt
          rw [List.getElem?_set_self (by rw [lb]; exact lt), tk]
          have h0 := hm t u
          rw [eb] at h0
          show u ∈ wt ++ [i] ↔ _
          have h0' : u ∈ wt ↔ _ := h0
          rw [List.mem_append, h0', List.mem_append, List.mem_singleton, List.mem_singleton]
          constructor
          · rintro ((h | h) | h)
            · exact .inl h
            · exact .inr ⟨h.1, .inl h.2⟩
            · exact .inr ⟨h, .inr rfl⟩
          · rintro (h | ⟨h, h' | h'⟩)
            · exact .inl (.inl h)
            · exact .inl (.inr ⟨h, h'⟩)
            · exact .inr h
        · rw [List.getElem?_set_ne hmt, hm m u, tk, List.mem_append, List.mem_singleton]
          constructor
          · rintro (h | h)
            · exact .inl h
            · exact .inr ⟨h.1, .inl h.2⟩
          · rintro (h | ⟨h, h' | h'⟩)
            · exact .inl h
            · exact .inr ⟨h, h'⟩
            · exact absurd h'.symm hmt
    · obtain ⟨sC, bs, y4, rfl, lb, hb, hm⟩ := p'
      rw [List.length_map] at hb hm
      refine ⟨sC, bs, _, _, _, rfl, lb, fun m a ws2 em ew2 => ⟨(hb m a ws2 em ew2).1, by have := (hb m a ws2 em ew2).2; omega⟩, fun m t => ?_⟩
      rw [hm m t, List.take_length]
      constructor
      · rintro (h | ⟨rfl, h⟩)
        · exact ⟨by omega, h.2⟩
        · exact ⟨by omega, by rw [ew]; exact h⟩
      · rintro ⟨h1, h2⟩
        by_cases e : t = i
        · subst e
          rw [ew] at h2
          exact .inr ⟨rfl, h2⟩
        · exact .inl ⟨by omega, h2⟩
  · obtain ⟨sB, bs, y2, y3, y4, rfl, lb, hb, hm⟩ := p'
    rw [List.length_map, lc'] at hm
    refine ⟨_, rfl, q D bs H' (fun b o hbo => sB _ _ (fun m => by rw [(ha b m).2.1] at hbo; cases hbo) (s2 _ _ (s1 _ _ hbo))) hD ⟨as, sB _ _ nDas (s2 _ _ eD), by rw [la', lb], fun m a ws em ew => (hb m a ws em ew).1⟩ lb fun m t => ?_⟩
    rw [hm]
    constructor
    · exact fun h => h.2
    · intro h
      refine ⟨?_, h⟩
      by_cases ht : t < rows.length
      · exact ht
      · rw [List.getElem?_eq_none (by rw [nxs_len]; omega)] at h
        cases h
end
end KL
end
section
set_option maxHeartbeats 1000000
namespace KL
open PySem PySem.Spec PyProof.Rows L2
abbrev sc_renumbered_stepN : List Str := ["step", "numbers"]
abbrev s_renumbered_step : Stmt := topS 27
theorem sc_renumbered_step : FnScope ["step", "numbers"] ["step", "numbers"] (defScope s_renumbered_step) := ⟨rfl, rfl, rfl, by decide +kernel, rfl, by decide +kernel, by decide +kernel⟩
abbrev sc_renumberedN : List Str := ["row", "numbers", "end", "steps", "step"]
abbrev s_renumbered : Stmt := topS 26
theorem sc_renumbered : FnScope ["row", "numbers", "end", "steps", "step"] ["row", "numbers"] (defScope s_renumbered) := ⟨rfl, rfl, rfl, by decide +kernel, rfl, by decide +kernel, by decide +kernel⟩
/-- the dict that numbers the states -/
def NumAt (H : Hp) (nd : Addr) (ks : List Nat) : Prop := ∃ kvs : List (Key × V), H nd = some (.dK kvs) ∧ ∀ s : Nat, valV kvs (Sum.inl (s : Int)) = if s ∈ ks then some (V.int (ks.idxOf s : Nat)) else none
theorem NumAt.same {H H' : Hp} {nd : Addr} {ks : List Nat} (h : NumAt H nd ks) (s : Same H H') : NumAt H' nd ks := let ⟨kvs, e, q⟩ := h; ⟨kvs, s _ _ e, q⟩
def spRenS : Sp := fun vs H Q _ => ∃ (Z : Zone) (st : Th) (v : V) (nd : Addr) (ks : List Nat) (n : Int), vs = [v, .ref nd] ∧ At Z H st v ∧ StepIs n st ∧ NumAt H nd ks ∧ ∀ v' H', Same H H' → At (Trk H) H' (renS ks st) v' → Q v' H'
def spRenT : Sp := fun vs H Q _ => ∃ (Z : Zone) (r : Th) (v : V) (nd : Addr) (ks : List Nat) (z n : Int), vs = [v, .ref nd] ∧ At Z H r v ∧ rowB z n r = true ∧ z ≤ 8 ∧ NumAt H nd ks ∧ ∀ v' H', Same H H' → At (Trk H) H' (renT ks r) v' → Q v' H'
section
variable {P : Program} {w : World} {K : PySem.W.Frag} {mg : Str → Option Value} {base : Heap} {k : Nat}
theorem ok_renumbered_step (d : Def K mg "renumbered_step" s_renumbered_step ["step", "numbers"]) : Cal P w K mg base CX0 (k + 1) "renumbered_step" ["step", "numbers"] spRenS := by
  refine d.ok sc_renumbered_step (fun vs H Q E h => ?_) (fun f cdv A outer s H vs Q E hr h => ?_)
  · obtain ⟨_, _, _, _, _, _, rfl, _⟩ := h; rfl
  obtain ⟨Z, st, v, nd, ks, n, rfl, h, hst, ⟨kvs, ed, hv⟩, q⟩ := h
  refine ⟨_, (pss_cons (ps_if (PW.pt (pw_or (pt_cmpR op_isN (pv 0) pe_non (nomark _)) (pw_or1 (pt_cmp (pc_dnotin (hu_of hr) (pe_ix ix_tup (pv 0) pe_int (fun _ _ => rfl)) (pv 1)))))) (pss_one (ps_ret pe_non)) pss_nil)
      (pss_one (ps_ret (pe_tup (pa_cons (pe_ix ix_tup (pv 0) pe_int (fun _ _ => rfl)) (pa_cons (pe_dget (hu_of hr) (pv 1) (pe_ix ix_tup (pv 0) pe_int (fun _ _ => rfl)) (fun _ _ => rfl)) pa_nil)))))), ?_⟩
  rcases st_at h hst with ⟨rfl, rfl⟩ | ⟨p, m, s', rfl, rfl, ep, _, m0, m1, s0, s1⟩
  · exact ⟨_, rfl, rfl, _, rfl, iteB (fun _ => q _ H (Same.refl H) rfl) (fun e => nomatch e)⟩
  · obtain ⟨t, rfl⟩ : ∃ t : Nat, s' = (t : Int) := ⟨s'.toNat, by omega⟩
    have hk := hv t
    have hd := DGet.k (k := (Sum.inl (t : Int) : Key)) ed
    rw [hk] at hd
    refine ⟨_, rfl, rfl, _, rfl, iteB (fun e => nomatch e) (fun _ => ?_)⟩
    refine ⟨_, rfl, p, _, 1, .int t, rfl, rfl, .of ep, rfl, _, rfl, nd, _, rfl, hd, _, rfl, ?_⟩
    by_cases ht : t ∈ ks
    · rw [if_pos ht] at hd ⊢
      refine iteB (fun e => nomatch e) (fun _ => ?_)
      refine ⟨_, rfl, p, _, 0, .int m, rfl, rfl, .of ep, rfl, _, rfl, _, rfl, p, _, 1, .int t, rfl, rfl, .of ep, rfl, nd, _, rfl, hd, (by show 2 ≤ sizeLine; decide), fun p2 n2 => ?_⟩
      refine q _ _ (same_new n2 _) ?_
      rw [renS, Int.toNat_natCast, if_pos ht]
      exact ⟨p2, _, rfl, Trk.not n2, upd_same, .cons rfl (.cons rfl .nil)⟩
    · rw [if_neg ht]
      refine iteB (fun _ => q _ H (Same.refl H) ?_) (fun e => nomatch e)
      rw [renS, Int.toNat_natCast, if_neg ht]
      rfl
theorem ok_renumbered (Z : Zs mg) (c_renumbered_step : Cal P w K mg base CX0 k "renumbered_step" ["step", "numbers"] spRenS) (d : Def K mg "renumbered" s_renumbered ["row", "numbers"]) : Cal P w K mg base CX0 (k + 1) "renumbered" ["row", "numbers"] spRenT := by
  refine d.ok sc_renumbered (fun vs H Q E h => ?_) (fun f cdv A outer s H vs Q E hr h => ?_)
  · obtain ⟨_, _, _, _, _, _, _, rfl, _⟩ := h; rfl
  obtain ⟨Zn, r, v, nd, ks, z, n, rfl, h, hr2, z8, hn, q⟩ := h
  refine ⟨_, (pss_cons (ps_asg (pv 0) (pg_tup (by rfl) (pgs_cons (pg_name (i := 2) sc_renumbered.nd rfl (Or.inl rfl)) (pgs_cons (pg_name (i := 3) sc_renumbered.nd rfl (Or.inl rfl)) pgs_nil))))
      (pss_one (ps_ret (pe_tup (pa_cons (pv 2) (pa_cons (pe_callTy (T := "tuple") call_tuple_of (by rfl) Z.tuple (by decide +kernel) (pa_cons (pe_lc (own := [("step", 4)]) (g := gName 4) (tt := tYes) rfl sc_renumbered.nd (pi_tup (pv 3)) (blkOk_by (N := ["row", "numbers", "end", "steps", "step"]) (sc := defScope s_renumbered) (by decide +kernel)) (fun _ _ _ _ _ => (pg_name (i := 4) sc_renumbered.nd rfl (Or.inl rfl))) (fun _ _ _ _ _ => pts_nil) (fun _ _ _ _ _ => (pe_cal c_renumbered_step hr (by rfl) (pa_cons (pv 4) (pa_cons (pv 1) pa_nil))))) pa_nil)) pa_nil)))))), ?_⟩
  obtain ⟨e, ss, rfl, h1, h2, h3⟩ := rowB_is hr2
  obtain ⟨p, ve, w', rfl, ep, b1, b2⟩ := h.pair
  obtain ⟨ps, us, rfl, _, eps, as'⟩ := b2
  refine ⟨_, rfl, p, _, rfl, .of ep, rfl, _, _, rfl, _, _, rfl, rfl, ?_⟩
  have ls := as'.len
  refine ⟨_, rfl, _, rfl, ps, rfl, ⟨_, .of eps⟩, lc_newW (f := fun j => renS ks ((ss[j]?).getD .non)) walk_tup (fun _ _ _ _ h => h) (fun H' s' => .of (s' _ _ eps)) (by omega) (fun _ => rfl) (fun j x H2 hj ex s2 R hR => ?_) (fun D H4 vs4 s4 hD eD aD => ?_)⟩
  · obtain ⟨st, est, hst⟩ := as'.get ex
    refine ⟨_, rfl, _, rfl, Zn, st, x, nd, ks, n, rfl, hst.same s2, h3 st (List.mem_of_getElem? est), hn.same s2, fun v' H3 s3 a3 => hR v' H3 s3 ?_⟩
    rw [est]
    exact a3
  · refine ⟨D, vs4, rfl, .inl ⟨.of eD, fun p5 n5 => ?_⟩⟩
    have z5 := same_new n5 (.tup vs4)
    refine ⟨(by show 2 ≤ sizeLine; decide), fun p6 n6 => ?_⟩
    have z6 := same_new n6 (.tup [ve, .ref p5])
    have s6 := s4.trans (z5.trans z6)
    refine q _ _ s6 ⟨p6, _, rfl, fun t => Trk.not n6 (Trk.same (s4.trans z5) t), upd_same, .cons ?_ (.cons ⟨p5, vs4, rfl, fun t => Trk.not n5 (Trk.same s4 t), z6 _ _ upd_same, ?_⟩ .nil)⟩
    · rcases h1 with rfl | ⟨i, rfl, _⟩
      · exact b1
      · exact b1
    · rw [ls, range_map_get (renS ks)] at aD
      exact ((aD.less fun a h => .inr h).same z5).same z6
end
end KL
end
section
set_option maxHeartbeats 1000000
namespace KL
open PySem PySem.Spec PyProof.Rows L2
abbrev sc_trimmedN : List Str := ["machine"]
abbrev s_trimmed : Stmt := topS 20
theorem sc_trimmed : FnScope ["machine"] ["machine"] (defScope s_trimmed) := ⟨rfl, rfl, rfl, by decide +kernel, rfl, by decide +kernel, by decide +kernel⟩
abbrev sc_trimmed_ofN : List Str := ["machine", "size", "rows", "come_to", "ending", "left", "numbers", "state", "row", "number"]
abbrev s_trimmed_of : Stmt := topS 21
theorem sc_trimmed_of : FnScope ["machine", "size", "rows", "come_to", "ending", "left", "numbers", "state", "row", "number"] ["machine"] (defScope s_trimmed_of) := ⟨rfl, rfl, rfl, by decide +kernel, rfl, by decide +kernel, by decide +kernel⟩
abbrev sc_textlessN : List Str := ["size"]
abbrev s_textless : Stmt := topS 22
theorem sc_textless : FnScope ["size"] ["size"] (defScope s_textless) := ⟨rfl, rfl, rfl, by decide +kernel, rfl, by decide +kernel, by decide +kernel⟩
def endB (rows : List Th) (s : Nat) : Bool := !isNon (endOf ((rows[s]?).getD .non))
theorem endB_iff {rows : List Th} {s : Nat} : endB rows s = true ↔ isEnd rows s := by
  unfold endB isEnd
  cases endOf ((rows[s]?).getD .non) <;> simp [isNon]
theorem isEnd_lt {rows : List Th} {s : Nat} (h : isEnd rows s) : s < rows.length := by
  by_cases hh : s < rows.length
  · exact hh
  · exact absurd (by rw [List.getElem?_eq_none (by omega)]; rfl) h
def endsL (rows : List Th) : List Nat := (List.range rows.length).filter (endB rows)
theorem mem_endsL {rows : List Th} {s : Nat} : s ∈ endsL rows ↔ isEnd rows s := by
  unfold endsL
  rw [List.mem_filter, List.mem_range, endB_iff]
  exact ⟨fun h => h.2, fun h => ⟨isEnd_lt h, h⟩⟩
theorem repV_single {α : Type} (k : Int) (x : α) : repV k [x] = List.replicate k.toNat x := by
  unfold repV
  induction k.toNat with
  | zero => rfl
  | succ n ih => rw [List.replicate_succ, List.flatten_cons, ih, List.replicate_succ]; rfl
theorem atAll_rep {Z : Zone} {H : Hp} : ∀ n : Nat, AtAll Z H (List.replicate n Th.non) (List.replicate n V.non)
  | 0 => .nil
  | n + 1 => .cons rfl (atAll_rep n)
theorem filt_t {p : Nat → Bool} {j : Nat} (h : p j = true) : (List.range (j + 1)).filter p = (List.range j).filter p ++ [j] := by
  rw [List.range_succ, List.filter_append, List.filter_cons, if_pos h]
  rfl
theorem filt_f {p : Nat → Bool} {j : Nat} (h : p j = false) : (List.range (j + 1)).filter p = (List.range j).filter p := by
  rw [List.range_succ, List.filter_append, List.filter_cons, if_neg (by rw [h]; exact Bool.false_ne_true), List.filter_nil, List.append_nil]
def spTrimOf : Sp := fun vs H Q _ => ∃ (Z : Zone) (u : V) (z : Int) (rows : List Th), vs = [u] ∧ At Z H (.tup [.int z, .tup rows]) u ∧ MOk z rows ∧ ∀ v H', Same H H' → At (Trk H) H' (trimT z rows) v → Q v H'
def spTextless : Sp := fun vs H Q _ => ∃ (z : Int), vs = [.int z] ∧ 0 ≤ z ∧ z ≤ 9 ∧ ∀ v H', Same H H' → At (Trk H) H' (.tup [.int z, .tup [bareRow z]]) v → Q v H'
def spTrimmed (CM : Addr) : Sp := fun vs H Q E => ∃ (Z : Zone) (u : V) (e : Th), vs = [u] ∧ At Z H e u ∧ shortT e = true ∧
  (∀ z rows, e = .tup [.int z, .tup rows] → MOk z rows → ∀ v H', Same H H' → At (Trk H) H' (trimT z rows) v → Q v H') ∧ (machB e = false → ∀ H', Same H H' → E (.ref CM) none H')
theorem put_len {κ : Type} [DecidableEq κ] (c : List (κ × V)) (k : κ) (x : V) : (putK c k x).length ≤ c.length + 1 := by
  unfold putK
  split
  · rw [List.length_map]; omega
  · rw [List.length_append]; exact Nat.le_refl _
theorem num_step {ks : List Nat} (nd : ks.Nodup) {kvs : List (Key × V)} {i t : Nat} (et : ks[i]? = some t) (hv : ∀ s : Nat, valV kvs (Sum.inl (s : Int)) = if s ∈ ks.take i then some (V.int ((ks.take i).idxOf s : Nat)) else none) :
    ∀ s : Nat, valV (putK kvs (Sum.inl (t : Int)) (V.int (i : Nat))) (Sum.inl (s : Int)) = if s ∈ ks.take (i + 1) then some (V.int ((ks.take (i + 1)).idxOf s : Nat)) else none := by
  intro s
  have hi := (List.getElem?_eq_some_iff.mp et).1
  have tk : ks.take (i + 1) = ks.take i ++ [t] := by rw [List.take_add_one, et]; rfl
  have li : (ks.take i).length = i := by rw [List.length_take]; omega
  have nt : t ∉ ks.take i := fun m => by
    obtain ⟨j, ej⟩ := List.mem_iff_getElem?.mp m
    have lj := (List.getElem?_eq_some_iff.mp ej).1
    rw [li] at lj
    rw [List.getElem?_take_of_lt lj] at ej
    exact Nat.ne_of_lt lj (nd_inj nd ej et)
  rw [valV_put, tk]
  by_cases e : s = t
  · subst e
    rw [if_pos rfl, if_pos (by simp), List.idxOf_append, if_neg nt, li]
    simp
  · rw [if_neg (fun h => e (by injection h with h; omega)), hv s]
    by_cases hs : s ∈ ks.take i
    · rw [if_pos hs, if_pos (List.mem_append_left _ hs), List.idxOf_append, if_pos hs]
    · rw [if_neg hs, if_neg (fun m => by
        rcases List.mem_append.mp m with m | m
        · exact hs m
        · exact e (List.mem_singleton.mp m))]
section
variable {P : Program} {w : World} {K : PySem.W.Frag} {mg : Str → Option Value} {base : Heap} {k : Nat}
theorem ok_textless (d : Def K mg "textless" s_textless ["size"]) : Cal P w K mg base CX0 (k + 1) "textless" ["size"] spTextless := by
  refine d.ok sc_textless (fun vs H Q E h => ?_) (fun f cdv A outer s H vs Q E hr h => ?_)
  · obtain ⟨_, rfl, _⟩ := h; rfl
  obtain ⟨z, rfl, z1, z8, q⟩ := h
  refine ⟨_, (pss_one (ps_ret (pe_tup (pa_cons (pv 0) (pa_cons (pe_tup (pa_cons (pe_tup (pa_cons pe_non (pa_cons (pe_op op_repN (pe_tup (pa_cons pe_non pa_nil)) (pv 0)) pa_nil))) pa_nil)) pa_nil))))), ?_⟩
  have fin : ∀ (pz : Addr) (G : Hp), Same H G → ¬ Trk H pz → G pz = some (.tup (List.replicate z.toNat .non)) → ∀ p2, G p2 = none → ∀ p3, upd G p2 (.tup [.non, .ref pz]) p3 = none → ∀ p4, upd (upd G p2 (.tup [.non, .ref pz])) p3 (.tup [.ref p2]) p4 = none → Q (.ref p4) (upd (upd (upd G p2 (.tup [.non, .ref pz])) p3 (.tup [.ref p2])) p4 (.tup [.int z, .ref p3])) := by
    intro pz G sG nz ez p2 n2 p3 n3 p4 n4
    have y2 := same_new n2 (.tup [.non, .ref pz])
    have y3 := same_new n3 (.tup [.ref p2])
    have y4 := same_new n4 (.tup [.int z, .ref p3])
    have y34 := y3.trans y4
    refine q _ _ (sG.trans (y2.trans y34)) ?_
    have tr : ∀ {a : Addr}, Trk H a → Trk G a := fun t => Trk.same sG t
    refine ⟨p4, _, rfl, fun t => Trk.not n4 (Trk.same (y2.trans y3) (tr t)), upd_same, .cons rfl (.cons ⟨p3, _, rfl, fun t => Trk.not n3 (Trk.same y2 (tr t)), y4 _ _ upd_same, .cons ⟨p2, _, rfl, fun t => Trk.not n2 (tr t), y34 _ _ upd_same, .cons rfl (.cons ⟨pz, _, rfl, nz, y2.trans y34 _ _ ez, ?_⟩ .nil)⟩ .nil⟩ .nil)⟩
    exact atAll_rep _
  refine ⟨_, rfl, (by show 1 ≤ sizeLine; decide), fun p1 np1 => ⟨_, rfl, p1, z, _, rfl, rfl, .of upd_same, by omega, by omega, (by show 1 ≤ 1000; decide), fun er => ?_, fun p5 np5 => ?_⟩⟩
  · rw [repV_single] at er
    refine ⟨(by show 2 ≤ sizeLine; decide), fun p2 n2 => ⟨(by show 1 ≤ sizeLine; decide), fun p3 n3 => ⟨(by show 2 ≤ sizeLine; decide), fun p4 n4 => ?_⟩⟩⟩
    exact fin p1 _ (same_new np1 _) (Trk.not np1) (by rw [upd_same, er]) p2 n2 p3 n3 p4 n4
  · rw [repV_single]
    have y5 := same_new np5 (.tup (List.replicate z.toNat V.non))
    refine ⟨(by show 2 ≤ sizeLine; decide), fun p2 n2 => ⟨(by show 1 ≤ sizeLine; decide), fun p3 n3 => ⟨(by show 2 ≤ sizeLine; decide), fun p4 n4 => ?_⟩⟩⟩
    exact fin p5 _ ((same_new np1 _).trans y5) (fun t => Trk.not np5 (Trk.same (same_new np1 _) t)) upd_same p2 n2 p3 n3 p4 n4
theorem ok_trimmed_of (Z : Zs mg) (c_nexts : Cal P w K mg base CX0 k "nexts" ["rows"] spNexts) (c_befores : Cal P w K mg base CX0 k "befores" ["rows"] spBefores)
    (c_spread : Cal P w K mg base CX0 k "spread" ["starts", "ways"] spSpread) (c_renumbered : Cal P w K mg base CX0 k "renumbered" ["row", "numbers"] spRenT) (c_textless : Cal P w K mg base CX0 k "textless" ["size"] spTextless) (d : Def K mg "trimmed_of" s_trimmed_of ["machine"]) : Cal P w K mg base CX0 (k + 1) "trimmed_of" ["machine"] spTrimOf := by
  refine d.ok sc_trimmed_of (fun vs H Q E h => ?_) (fun f cdv A outer s H vs Q E hr h => ?_)
  · obtain ⟨_, _, _, _, rfl, _⟩ := h; rfl
  obtain ⟨Zn, u, z, rows, rfl, hu, ok, q⟩ := h
  refine ⟨_, (pss_cons (ps_asg (pv 0) (pg_tup (by rfl) (pgs_cons (pg_name (i := 1) sc_trimmed_of.nd rfl (Or.inl rfl)) (pgs_cons (pg_name (i := 2) sc_trimmed_of.nd rfl (Or.inr rfl)) pgs_nil))))
      (pss_cons (ps_set (i := 3) sc_trimmed_of.nd rfl (Or.inr rfl) (pe_cal c_spread hr (by rfl) (pa_cons (pe_lst (pa_cons pe_int pa_nil)) (pa_cons (pe_cal c_nexts hr (by rfl) (pa_cons (pv 2) pa_nil)) pa_nil))))
      (pss_cons (ps_set (i := 4) sc_trimmed_of.nd rfl (Or.inr rfl) (pe_cal c_spread hr (by rfl) (pa_cons (pe_lc (own := [("state", 7), ("row", 8)]) (g := (gTup K 2 (gCons (gName 7) (gCons (gName 8) gNil)))) (tt := _) rfl sc_trimmed_of.nd (pi_enumT (by rfl) Z.enumerate (pa_cons (pv 2) pa_nil)) (blkOk_by (N := ["machine", "size", "rows", "come_to", "ending", "left", "numbers", "state", "row", "number"]) (sc := defScope s_trimmed_of) (by decide +kernel)) (fun _ _ _ _ _ => (pg_tup (by rfl) (pgs_cons (pg_name (i := 7) sc_trimmed_of.nd rfl (Or.inl rfl)) (pgs_cons (pg_name (i := 8) sc_trimmed_of.nd rfl (Or.inl rfl)) pgs_nil)))) (fun _ _ _ _ _ => (pts_one (pt_cmpR op_notN (pe_ix (r := rIxT K) ix_tup (pv 8) pe_int (fun _ _ => rfl)) pe_non (nomark _)))) (fun _ _ _ _ _ => (pv 7))) (pa_cons (pe_cal c_befores hr (by rfl) (pa_cons (pv 2) pa_nil)) pa_nil))))
      (pss_cons (ps_setLc (i := 5) (own := [("state", 7)]) (g := gName 7) (tt := _) rfl sc_trimmed_of.nd rfl rfl (sw_true rfl rfl rfl (by decide +kernel)) (pi_range1 (by rfl) Z.range (pa_cons (pe_callB (id := "len") call_len_seq (by rfl) Z.len (by decide +kernel) (pa_cons (pv 2) pa_nil)) pa_nil)) (blkOk_by (N := ["machine", "size", "rows", "come_to", "ending", "left", "numbers", "state", "row", "number"]) (sc := defScope s_trimmed_of) (by decide +kernel)) (fun _ _ _ _ _ => (pg_name (i := 7) sc_trimmed_of.nd rfl (Or.inl rfl))) (fun _ _ _ _ _ => (pts_one (PW.pt (pw_and (pt_val (pe_ix (r := rIxL K) ix_list (pv 3) (pv 7) (fun _ _ => rfl))) (pw_and1 (pt_val (pe_ix (r := rIxL K) ix_list (pv 4) (pv 7) (fun _ _ => rfl)))))))) (fun _ _ _ _ _ => (pv 7)))
      (pss_cons (ps_if (pt_not (pt_truth (pv 5) (by intro _; rfl))) (pss_one (ps_ret (pe_cal c_textless hr (by rfl) (pa_cons (pv 1) pa_nil)))) pss_nil)
      (pss_cons (ps_set (i := 6) sc_trimmed_of.nd rfl (Or.inr rfl) (pe_dc (own := [("number", 9), ("state", 7)]) (g := (gTup K 2 (gCons (gName 9) (gCons (gName 7) gNil)))) (tt := tYes) rfl sc_trimmed_of.nd (pi_enum (by rfl) Z.enumerate (pa_cons (pv 5) pa_nil)) (blkOk_by (N := ["machine", "size", "rows", "come_to", "ending", "left", "numbers", "state", "row", "number"]) (sc := defScope s_trimmed_of) (by decide +kernel)) (fun _ _ _ _ _ => (pg_tup (by rfl) (pgs_cons (pg_name (i := 9) sc_trimmed_of.nd rfl (Or.inl rfl)) (pgs_cons (pg_name (i := 7) sc_trimmed_of.nd rfl (Or.inl rfl)) pgs_nil)))) (fun _ _ _ _ _ => pts_nil) (fun _ _ _ _ _ => (pv 7)) (fun _ _ _ _ _ => (pv 9))))
      (pss_one (ps_ret (pe_tup (pa_cons (pv 1) (pa_cons (pe_callTy (T := "tuple") call_tuple_of (by rfl) Z.tuple (by decide +kernel) (pa_cons (pe_lc (own := [("state", 7)]) (g := gName 7) (tt := tYes) rfl sc_trimmed_of.nd (pi_list (pv 5)) (blkOk_by (N := ["machine", "size", "rows", "come_to", "ending", "left", "numbers", "state", "row", "number"]) (sc := defScope s_trimmed_of) (by decide +kernel)) (fun _ _ _ _ _ => (pg_name (i := 7) sc_trimmed_of.nd rfl (Or.inl rfl))) (fun _ _ _ _ _ => pts_nil) (fun _ _ _ _ _ => (pe_cal c_renumbered hr (by rfl) (pa_cons (pe_ix (r := rIxT K) ix_tup (pv 2) (pv 7) (fun _ _ => rfl)) (pa_cons (pv 6) pa_nil))))) pa_nil)) pa_nil))))))))))), ?_⟩
  have n1 := ok.n1
  have n30 := ok.n30
  have z1 := ok.z1
  have z8 := ok.z8
  obtain ⟨p, pr, us, rfl, ep, epr, ar, _⟩ := hu.mach
  have s1 := Same.refl H
  have lu := ar.len
  refine ⟨_, rfl, p, _, rfl, .of ep, rfl, _, _, rfl, _, _, rfl, rfl, ?_⟩
  -- come_to
  refine ⟨(by show 1 ≤ sizeLine; decide), fun L hL => ?_⟩
  have zL := same_new hL (.lst [V.int 0])
  refine ⟨_, rfl, Zn, pr, us, z, rows, rfl, zL _ _ epr, ar.same zL, ok, fun N H2 s2 nN ll => ?_⟩
  have s02 := zL.trans s2
  refine ⟨L, N, [0], nxs rows, rfl, s2 _ _ upd_same, ll.ll, by rw [nxs_len]; omega, by decide, fun s m => by rw [List.mem_singleton.mp m, nxs_len]; omega, ok.nx_lt, fun F1 f1 H3 s3 nF1 eF1 lf1 hf1 => ?_⟩
  have s03 := s02.trans s3
  -- ending
  refine ⟨_, rfl, pr, us, rfl, .of (s03 _ _ epr), fun D hD => lc_it walk_enumT (fun j H' => Same H3 H' ∧ H' D = some (.lst (((List.range j).filter (endB rows)).map nV))) ⟨same_new hD _, upd_same⟩ (fun j H' _ p' => .of (p'.1 _ _ (s03 _ _ epr))) (fun j x G G' hj p' y => ?_) (fun H4 p4 => ?_)⟩
  · obtain ⟨sG, eD⟩ := p'
    obtain ⟨T, x1, x2, rfl, nT, rfl, e1, e2⟩ := y
    cases e1
    have hj' : j < rows.length := by rw [← lu]; exact hj
    have zT := same_new nT (.tup [V.int (j : Nat), x2])
    obtain ⟨pu, ve, ps, vs, e, ss, b1, b2, b3, b4, b5, b6, b7, b8, b9⟩ := row_at (ar.same (s03.trans (sG.trans zT))) ok hj'
    have e2' : us[j]? = some x2 := e2
    rw [b1] at e2'
    cases e2'
    have eb : endB rows j = !isNon e := by unfold endB; rw [b4]; rfl
    have lf : (((List.range j).filter (endB rows)).map nV).length < sizeLine := by
      rw [List.length_map, sizeLine_eq]
      have := List.length_filter_le (endB rows) (List.range j)
      rw [List.length_range] at this
      omega
    refine ⟨T, _, rfl, .of upd_same, rfl, _, _, rfl, _, _, rfl, rfl, rfl, ?_⟩
    refine ⟨_, rfl, pu, _, 0, ve, rfl, rfl, .of b2, rfl, rfl, _, rfl, ?_⟩
    rw [b5.isN, ← eb]
    cases hb : endB rows j with
    | true =>
      refine iteT (B := False) ⟨_, rfl, _, zT _ _ eD, lf, Same.upd_new (sG.trans zT) hD _, ?_⟩
      rw [upd_same, filt_t hb, List.map_append]
      rfl
    | false =>
      refine iteF (A := False) ⟨sG.trans zT, ?_⟩
      rw [filt_f hb]
      exact zT _ _ eD
  obtain ⟨s4, eD⟩ := p4
  rw [lu] at eD
  have s04 := s03.trans s4
  refine ⟨_, rfl, Zn, pr, us, z, rows, rfl, s04 _ _ epr, ar.same s04, ok, fun N2 bs H5 s5 nN2 ll2 lb hb => ?_⟩
  have s05 := s04.trans s5
  have eE : (endsL rows).length ≤ rows.length := by
    have := List.length_filter_le (endB rows) (List.range rows.length)
    rw [List.length_range] at this
    exact this
  refine ⟨D, N2, endsL rows, bs, rfl, s5 _ _ eD, ll2, by omega, by omega, fun s m => by rw [lb]; exact isEnd_lt (mem_endsL.mp m), fun i ws ei t mt => ?_, fun F2 f2 H6 s6 nF2 eF2 lf2 hf2 => ?_⟩
  · have mt' : t ∈ (bs[i]?).getD [] := by rw [ei]; exact mt
    have := (hb i t).mp mt'
    rw [lb]
    by_cases ht : t < rows.length
    · exact ht
    · rw [List.getElem?_eq_none (by rw [nxs_len]; omega)] at this
      cases this
  have s06 := s05.trans s6
  have s36 := s4.trans (s5.trans s6)
  -- left
  refine ⟨_, rfl, pr, us, rfl, .inr (.of (s06 _ _ epr)), _, rfl, by rw [lu]; omega, by rw [lu]; omega, ?_⟩
  rw [lu, Int.toNat_natCast]
  have bt : ∀ j : Nat, j < rows.length → ∃ b1 b2, f1[j]? = some b1 ∧ f2[j]? = some b2 ∧ (b1 && b2) = keepB rows j := fun j hj => by
    have h1 : f1[j]? = some (f1[j]'(by rw [lf1, nxs_len]; exact hj)) := List.getElem?_eq_getElem _
    have h2 : f2[j]? = some (f2[j]'(by rw [lf2, lb]; exact hj)) := List.getElem?_eq_getElem _
    refine ⟨_, _, h1, h2, ?_⟩
    have i1 := hf1 j
    have i2 := hf2 j
    rw [h1] at i1
    rw [h2, RS.ends hb] at i2
    rw [Bool.eq_iff_iff, Bool.and_eq_true, keepB_iff]
    constructor
    · rintro ⟨a1, a2⟩
      refine ⟨i1.mp (by rw [a1]), ?_⟩
      obtain ⟨e, me, re⟩ := i2.mp (by rw [a2])
      exact ⟨e, re, mem_endsL.mp me⟩
    · rintro ⟨r1, e, re, he⟩
      exact ⟨Option.some.inj (i1.mpr r1), Option.some.inj (i2.mpr ⟨e, mem_endsL.mpr he, re⟩)⟩
  refine lc_valW (f := nV) (p := keepB rows) (walk_range (lo := 0)) (fun _ _ _ _ h => h) (fun _ _ => trivial) (by omega) (fun _ => rfl) (fun j x G hj ex sG R hR => ?_) (fun j x G hj ex hp sG R hR => ?_) (fun L2 H7 s7 nL2 eL2 => ?_)
  · subst ex
    obtain ⟨b1, b2, h1, h2, hk⟩ := bt j hj
    refine ⟨_, rfl, _, rfl, F1, _, _, .bl b1, rfl, rfl, .of (sG _ _ (s36 _ _ eF1)), by rw [Int.zero_add]; exact atI_nat (get_map h1), b1, rfl, ?_⟩
    have r' := hR G (Same.refl G)
    cases b1 with
    | true =>
      refine iteT ⟨_, rfl, _, rfl, F2, _, _, .bl b2, rfl, rfl, .of (sG _ _ eF2), by rw [Int.zero_add]; exact atI_nat (get_map h2), b2, rfl, ?_⟩
      rw [← hk] at r'
      exact r'
    | false =>
      refine iteF ?_
      rw [← hk] at r'
      exact r'
  · subst ex
    refine ⟨_, rfl, ?_⟩
    show R (V.int (0 + (j : Int))) G
    rw [Int.zero_add]
    exact hR G (Same.refl G)
  have s07 := s06.trans s7
  have eK : H7 L2 = some (.lst ((keep rows).map nV)) := eL2
  -- if not left
  refine ⟨_, rfl, _, .inl ⟨_, .of eK, rfl⟩, iteB (fun e1 => ?_) (fun e1 => ?_)⟩
  · have hk : keep rows = [] := by
      cases h : keep rows with
      | nil => rfl
      | cons a b => rw [h] at e1; cases e1
    have eT : trimT z rows = .tup [.int z, .tup [bareRow z]] := by unfold trimT trimL; rw [if_pos hk]
    refine ⟨_, rfl, z, rfl, by omega, by omega, fun v G sG aG => ?_⟩
    refine q v G ((s1.trans s07).trans sG) ?_
    rw [eT]
    exact aG.less fun a t => Trk.same (s1.trans s07) t
  · have hk : keep rows ≠ [] := fun h => by rw [h] at e1; cases e1
    -- numbers
    refine ⟨_, rfl, L2, _, rfl, .of eK, fun D2 hD2 => dc_it walk_enum (fun j G => Same H7 G ∧ ∃ kvs : List (Key × V), G D2 = some (.dK kvs) ∧ kvs.length ≤ j ∧ ∀ s : Nat, valV kvs (Sum.inl (s : Int)) = if s ∈ (keep rows).take j then some (V.int (((keep rows).take j).idxOf s : Nat)) else none)
      ⟨same_new hD2 _, [], upd_same, Nat.le_refl _, fun s => rfl⟩ (fun j G _ p' => .of (p'.1 _ _ eK)) (fun j x G G' hj p' y => ?_) (fun H8 p8 => ?_)⟩
    · obtain ⟨sG, kvs, eD2, lk, hv⟩ := p'
      obtain ⟨T, x1, x2, rfl, nT, rfl, y1, y2⟩ := y
      cases y1
      obtain ⟨t, et, rfl⟩ := map_get y2
      have zT := same_new nT (.tup [V.int (j : Nat), nV t])
      have lj := (List.getElem?_eq_some_iff.mp et).1
      have lkp := keep_len rows
      refine ⟨T, _, rfl, .of upd_same, rfl, _, _, rfl, _, _, rfl, rfl, rfl, iteT (B := False) ?_⟩
      refine ⟨_, rfl, _, rfl, kvs, Sum.inl (t : Int), rfl, zT _ _ eD2, by rw [sizeLine_eq]; omega, Same.upd_new (sG.trans zT) hD2 _, _, upd_same, ?_, num_step (keep_nodup rows) et hv⟩
      have := put_len kvs (Sum.inl (t : Int)) (V.int (j : Nat))
      omega
    obtain ⟨s8, kvs, eD2, lk, hv⟩ := p8
    rw [List.length_map, List.take_length] at hv
    have na : NumAt H8 D2 (keep rows) := ⟨kvs, eD2, hv⟩
    have s08 := s07.trans s8
    -- the rows
    refine ⟨_, rfl, _, rfl, L2, rfl, ⟨_, .of (s8 _ _ eK)⟩, lc_newW (f := fun j => renT (keep rows) ((rows[((keep rows)[j]?).getD 0]?).getD .non)) walk_list (fun _ _ _ _ h => h) (fun H' s' => .of (s' _ _ (s8 _ _ eK))) (by rw [List.length_map]; have := keep_len rows; omega) (fun _ => rfl) (fun j x G hj ex sG R hR => ?_) (fun D3 H9 vs9 s9 hD3 eD3 aD3 => ?_)⟩
    · obtain ⟨t, et, rfl⟩ := map_get ex
      have mk := List.mem_of_getElem? et
      have lt := (mem_keep.mp mk).1
      have s0G := s08.trans sG
      obtain ⟨e, ss, er, h1, h2, h3⟩ := ok.row lt
      obtain ⟨ur, eu, hur⟩ := (ar.same s0G).at er
      refine ⟨_, rfl, _, rfl, pr, us, _, ur, rfl, rfl, .of (s0G _ _ epr), atI_nat eu, _, rfl, Zn, _, ur, D2, keep rows, z, rows.length, rfl, hur, rowB_of h1 h2 h3, z8, na.same sG, fun v' G2 s2' a2 => hR v' G2 s2' ?_⟩
      rw [et]
      show At (Trk G) G2 (renT (keep rows) ((rows[t]?).getD .non)) v'
      rw [er]
      exact a2
    · refine ⟨D3, vs9, rfl, .inl ⟨.of eD3, fun p5 n5 => ?_⟩⟩
      have y5 := same_new n5 (.tup vs9)
      refine ⟨(by show 2 ≤ sizeLine; decide), fun p6 n6 => ?_⟩
      have y6 := same_new n6 (.tup [.int z, .ref p5])
      have sA := (s1.trans s08).trans s9
      have eT : trimT z rows = .tup [.int z, .tup ((keep rows).map fun s => renT (keep rows) ((rows[s]?).getD .non))] := by unfold trimT trimL; rw [if_neg hk]
      refine q _ _ (sA.trans (y5.trans y6)) ?_
      rw [eT]
      refine ⟨p6, _, rfl, fun t => Trk.not n6 (Trk.same (sA.trans y5) t), upd_same, .cons rfl (.cons ⟨p5, vs9, rfl, fun t => Trk.not n5 (Trk.same sA t), y6 _ _ upd_same, ?_⟩ .nil)⟩
      rw [List.length_map, range_map_get (fun s => renT (keep rows) ((rows[s]?).getD .non)) 0] at aD3
      exact ((aD3.less fun a h => .inr (Trk.same (s1.trans s08) h)).same y5).same y6
theorem ok_trimmed {CM : Addr} (c_demand_machine : Cal P w K mg base (L2.CX P w) k "demand_machine" ["thing"] (spDemand CM)) (c_trimmed_of : Cal P w K mg base CX0 k "trimmed_of" ["machine"] spTrimOf) (d : Def K mg "trimmed" s_trimmed ["machine"]) : Cal P w K mg base (L2.CX P w) (k + 1) "trimmed" ["machine"] (spTrimmed CM) := by
  refine d.okX sc_trimmed (fun vs H Q E h => ?_) (fun f cdv A outer s H vs Q E hr h => ?_)
  · obtain ⟨_, _, _, rfl, _⟩ := h; rfl
  obtain ⟨Zn, u, e, rfl, hu, se, qr, qm⟩ := h
  refine ⟨_, (pss_cons (ps_expr (pe_calE (E := E) c_demand_machine hr (by rfl) (takes_of rfl rfl rfl rfl) (pa_cons (pv 0) pa_nil)))
      (pss_one (ps_ret (pe_cal c_trimmed_of hr (by rfl) (pa_cons (pv 0) pa_nil))))), ?_⟩
  refine ⟨_, rfl, Zn, u, e, rfl, hu, se, fun em H1 s1 => ?_, fun em H1 s1 => qm em H1 s1⟩
  obtain ⟨z, rows, rfl, ok⟩ := machB_ok em
  exact ⟨_, rfl, Zn, u, z, rows, rfl, hu.same s1, ok, fun v H2 s2 a2 => qr z rows rfl ok v H2 (s1.trans s2) (a2.less fun a t => Trk.same s1 t)⟩
end
end KL
end
section
set_option maxHeartbeats 1000000
namespace KL
open PySem PySem.Spec PyProof.Rows L2
theorem flat_ns (fs : List Nat) : (fs.map nV).all flatV = true := by
  rw [List.all_eq_true]
  intro x m
  obtain ⟨i, _, rfl⟩ := List.mem_map.mp m
  rfl
theorem inV_ns (t : Nat) (fs : List Nat) : inV (nV t) (fs.map nV) = decide (t ∈ fs) := by
  induction fs with
  | nil => rfl
  | cons a r ih =>
    show (eqV (nV a) (nV t) || inV (nV t) (r.map nV)) = _
    rw [ih]
    show (((a : Int) == (t : Int)) || decide (t ∈ r)) = _
    by_cases e : a = t
    · subst e
      simp
    · have : ((a : Int) == (t : Int)) = false := beq_eq_false_iff_ne.mpr (by omega)
      rw [this, Bool.false_or]
      exact decide_eq_decide.mpr ⟨fun m => List.mem_cons_of_mem _ m, fun m => (List.mem_cons.mp m).resolve_left (fun h => e h.symm)⟩
theorem notin_ns (t : Nat) (fs : List Nat) : (!inV (nV t) (fs.map nV)) = true ↔ t ∉ fs := by
  rw [inV_ns]
  by_cases h : t ∈ fs
  · rw [decide_eq_true h]; simp [h]
  · rw [decide_eq_false h]; simp [h]
def spLNexts : Sp := fun vs H Q _ => ∃ (Z : Zone) (r : Th) (v : V) (z n : Int), vs = [v] ∧ At Z H r v ∧ rowB z n r = true ∧ z ≤ 8 ∧ ∀ N H', Same H H' → H N = none → H' N = some (.lst ((nxr r).map nV)) → Q (.ref N) H'
def spFresh : Sp := fun vs H Q _ => ∃ (A B : Addr) (fs ms : List Nat), vs = [.ref A, .ref B] ∧ H A = some (.lst (fs.map nV)) ∧ H B = some (.lst (ms.map nV)) ∧ ms.length ≤ 1000 ∧ ∀ (N : Addr) (fr : List Nat) (H' : Hp), Same H H' → H N = none → H' N = some (.lst (fr.map nV)) → fr.length ≤ ms.length → fr.Nodup → (∀ x, x ∈ fr ↔ x ∈ ms ∧ x ∉ fs) → Q (.ref N) H'
def spReached : Sp := fun vs H Q _ => ∃ (Z : Zone) (pr : Addr) (us : List V) (z : Int) (rows : List Th) (b : Nat), vs = [.ref pr, .int (b : Nat)] ∧ H pr = some (.tup us) ∧ AtAll Z H rows us ∧ MOk z rows ∧ b < rows.length ∧ ∀ (N : Addr) (fs : List Nat) (H' : Hp), Same H H' → H N = none → H' N = some (.lst (fs.map nV)) → fs.Nodup → (∀ x, x ∈ fs ↔ Rc rows b x) → Q (.ref N) H'
def spLEnds : Sp := fun vs H Q _ => ∃ (Z : Zone) (pr : Addr) (us : List V) (z : Int) (rows : List Th) (b : Nat), vs = [.ref pr, .int (b : Nat)] ∧ H pr = some (.tup us) ∧ AtAll Z H rows us ∧ MOk z rows ∧ b < rows.length ∧ ∀ H', Same H H' → Q (.bl (lvEB rows b)) H'
/-- what a walk by turns holds -/
structure RI (rows : List Th) (b i : Nat) (fs : List Nat) : Prop where
  nd : fs.Nodup
  mb : b ∈ fs
  snd : ∀ x ∈ fs, Rc rows b x
  clo : ∀ (j x : Nat), j < i → fs[j]? = some x → ∀ t ∈ ((nxs rows)[x]?).getD [], t ∈ fs
theorem nd_len {n : Nat} {fs : List Nat} (nd : fs.Nodup) (h : ∀ x ∈ fs, x < n) : fs.length ≤ n := by
  have := nd.length_le_of_subset (l₂ := List.range n) (fun x m => List.mem_range.mpr (h x m))
  rwa [List.length_range] at this
theorem RI.len {z : Int} {rows : List Th} {b i : Nat} {fs : List Nat} (h : RI rows b i fs) (ok : MOk z rows) (hb : b < rows.length) : fs.length ≤ rows.length := nd_len h.nd fun x m => ok.rc_lt hb (h.snd x m)
theorem RI.done {z : Int} {rows : List Th} {b : Nat} {fs : List Nat} (ok : MOk z rows) (hb : b < rows.length) (h : RI rows b rows.length fs) (x : Nat) : x ∈ fs ↔ Rc rows b x := by
  refine ⟨h.snd x, fun r => ?_⟩
  induction r with
  | base m => rw [List.mem_singleton.mp m]; exact h.mb
  | step r m ih =>
    obtain ⟨j, ej⟩ := List.mem_iff_getElem?.mp ih
    have lj := (List.getElem?_eq_some_iff.mp ej).1
    have := h.len ok hb
    exact h.clo j _ (by omega) ej _ m
theorem RI.skip {rows : List Th} {b i : Nat} {fs : List Nat} (h : RI rows b i fs) (hi : fs.length ≤ i) : RI rows b (i + 1) fs where
  nd := h.nd
  mb := h.mb
  snd := h.snd
  clo := fun j x hj ej => h.clo j x (by have := (List.getElem?_eq_some_iff.mp ej).1; omega) ej
theorem RI.more {rows : List Th} {b i x : Nat} {fs fr : List Nat} (h : RI rows b i fs) (ex : fs[i]? = some x) (nd : fr.Nodup) (hr : ∀ y, y ∈ fr ↔ y ∈ ((nxs rows)[x]?).getD [] ∧ y ∉ fs) : RI rows b (i + 1) (fs ++ fr) where
  nd := List.nodup_append.mpr ⟨h.nd, nd, fun a ma c mc e => by
    subst e
    exact ((hr a).mp mc).2 ma⟩
  mb := List.mem_append_left _ h.mb
  snd := fun y m => by
    rcases List.mem_append.mp m with m | m
    · exact h.snd y m
    · exact .step (h.snd x (List.mem_of_getElem? ex)) ((hr y).mp m).1
  clo := fun j y hj ej t mt => by
    have hi := (List.getElem?_eq_some_iff.mp ex).1
    rw [List.getElem?_append_left (by omega)] at ej
    by_cases e : j = i
    · subst e
      rw [ex] at ej
      cases ej
      by_cases hm : t ∈ fs
      · exact List.mem_append_left _ hm
      · exact List.mem_append_right _ ((hr t).mpr ⟨mt, hm⟩)
    · exact List.mem_append_left _ (h.clo j y (by omega) ej t mt)
section
variable {P : Program} {w : World} {K : PySem.W.Frag} {mg : Str → Option Value} {base : Heap} {k : Nat}
theorem filt_all (n : Nat) : (List.range n).filter (fun _ => true) = List.range n := List.filter_eq_self.mpr fun _ _ => rfl
end
end KL
end
section
set_option maxHeartbeats 1000000
namespace KL
open PySem PySem.Spec PyProof.Rows L2
def spKept : Sp := fun vs H Q _ => ∃ (Z : Zone) (st : Th) (v : V) (sd : Addr) (ks : List Nat) (n : Int), vs = [v, .ref sd] ∧ At Z H st v ∧ StepIs n st ∧ H sd = some (.lst (ks.map nV)) ∧ ∀ v' H', Same H H' → At (Trk H) H' (renS ks st) v' → Q v' H'
def spLTrim : Sp := fun vs H Q _ => ∃ (Z : Zone) (u : V) (z : Int) (rows : List Th), vs = [u] ∧ At Z H (.tup [.int z, .tup rows]) u ∧ MOk z rows ∧ ∀ v H', Same H H' → At (Trk H) H' (trimT z rows) v → Q v H'
/-- two rising lists of the same numbers -/
theorem rise_eq : ∀ {xs ys : List Nat}, xs.Pairwise (· < ·) → ys.Pairwise (· < ·) → (∀ x, x ∈ xs ↔ x ∈ ys) → xs = ys
  | [], [], _, _, _ => rfl
  | [], y :: ys, _, _, h => absurd ((h y).mpr List.mem_cons_self) (by simp)
  | x :: xs, [], _, _, h => absurd ((h x).mp List.mem_cons_self) (by simp)
  | x :: xs, y :: ys, hx, hy, h => by
    rw [List.pairwise_cons] at hx hy
    have e : x = y := by
      have h1 := (h x).mp List.mem_cons_self
      have h2 := (h y).mpr List.mem_cons_self
      rcases List.mem_cons.mp h1 with h1 | h1
      · exact h1
      · rcases List.mem_cons.mp h2 with h2 | h2
        · exact h2.symm
        · have := hx.1 y h2
          have := hy.1 x h1
          omega
    subst e
    congr 1
    refine rise_eq hx.2 hy.2 fun z => ?_
    constructor
    · intro m
      rcases List.mem_cons.mp ((h z).mp (List.mem_cons_of_mem _ m)) with e | m'
      · subst e; exact absurd (hx.1 z m) (Nat.lt_irrefl _)
      · exact m'
    · intro m
      rcases List.mem_cons.mp ((h z).mpr (List.mem_cons_of_mem _ m)) with e | m'
      · subst e; exact absurd (hy.1 z m) (Nat.lt_irrefl _)
      · exact m'
theorem cast_nonneg : ∀ ns : List Int, (∀ x ∈ ns, 0 ≤ x) → (ns.map Int.toNat).map (fun n : Nat => (n : Int)) = ns
  | [], _ => rfl
  | x :: xs, h => by
    rw [List.map_cons, List.map_cons, cast_nonneg xs (fun y m => h y (List.mem_cons_of_mem _ m))]
    have := h x List.mem_cons_self
    rw [show ((x.toNat : Nat) : Int) = x by omega]
theorem keep_rise (rows : List Th) : (keep rows).Pairwise (· < ·) := List.Pairwise.filter _ List.pairwise_lt_range
theorem lt_of_le_nd : ∀ {xs : List Nat}, xs.Pairwise (· ≤ ·) → xs.Nodup → xs.Pairwise (· < ·)
  | [], _, _ => .nil
  | x :: xs, h, n => by
    rw [List.pairwise_cons] at h
    have n' := List.nodup_cons.mp n
    exact List.pairwise_cons.mpr ⟨fun y m => Nat.lt_of_le_of_ne (h.1 y m) (fun e => n'.1 (by rw [e]; exact m)), lt_of_le_nd h.2 n'.2⟩
theorem sorted_keep {rows : List Th} {fs ss : List Nat} (hm : ∀ x, x ∈ fs ↔ Rc rows 0 x) (lt : ∀ x ∈ fs, x < rows.length) (nd : fs.Nodup) (pm : ss.Perm fs) (so : ss.Pairwise (· ≤ ·)) : ss.filter (lvEB rows) = keep rows := by
  refine rise_eq (List.Pairwise.filter _ (lt_of_le_nd so (pm.nodup_iff.mpr nd))) (keep_rise rows) fun x => ?_
  rw [List.mem_filter, mem_keep, pm.mem_iff, hm, lvEB_iff]
  exact ⟨fun h => ⟨lt x ((hm x).mpr h.1), h⟩, fun h => h.2⟩
theorem filt_get (p : Nat → Bool) : ∀ xs : List Nat, ((List.range xs.length).filter (fun j => p ((xs[j]?).getD 0))).map (fun j => nV ((xs[j]?).getD 0)) = (xs.filter p).map nV := by
  intro xs
  have hx : (List.range xs.length).map (fun j => (xs[j]?).getD 0) = xs := by
    have := range_map_get (fun x : Nat => x) 0 xs
    rwa [List.map_id'] at this
  have e : xs.filter p = ((List.range xs.length).filter (fun j => p ((xs[j]?).getD 0))).map (fun j => (xs[j]?).getD 0) := by
    conv => lhs; rw [← hx]
    exact List.filter_map
  rw [e, List.map_map]
  rfl
section
variable {P : Program} {w : World} {K : PySem.W.Frag} {mg : Str → Option Value} {base : Heap} {k : Nat}
end
end KL
end
section
set_option maxHeartbeats 1000000
namespace KL
open PySem PySem.Spec PyProof.Rows L2
abbrev sc_sharesN : List Str := ["row", "states", "end", "steps", "found", "step", "more", "state"]
abbrev s_shares : Stmt := topS 35
theorem sc_shares : FnScope ["row", "states", "end", "steps", "found", "step", "more", "state"] ["row", "states"] (defScope s_shares) := ⟨rfl, rfl, rfl, by decide +kernel, rfl, by decide +kernel, by decide +kernel⟩
abbrev sc_equationN : List Str := ["rows", "state", "found", "left", "share"]
abbrev s_equation : Stmt := topS 36
theorem sc_equation : FnScope ["rows", "state", "found", "left", "share"] ["rows", "state"] (defScope s_equation) := ⟨rfl, rfl, rfl, by decide +kernel, rfl, by decide +kernel, by decide +kernel⟩
abbrev sc_lowestN : List Str := ["top", "bottom", "common"]
abbrev s_lowest : Stmt := topS 34
theorem sc_lowest : FnScope ["top", "bottom", "common"] ["top", "bottom"] (defScope s_lowest) := ⟨rfl, rfl, rfl, by decide +kernel, rfl, by decide +kernel, by decide +kernel⟩
structure Gs (mg : Str → Option Value) : Prop where
  gcd : mg "gcd" = some (.builtin "math.gcd")
  zip : mg "zip" = none
structure Glcm (mg : Str → Option Value) : Prop extends Gs mg where
  lcm : mg "lcm" = some (.builtin "math.lcm")
section
variable {X : Cx}
theorem get_list : PGet X (rIxL X.K) := by
  intro pins s σ H x y v u Q I rx ry h
  obtain ⟨p, xs, i, z, rfl, rfl, hq, he, q⟩ := h
  cases rx
  obtain ⟨t, rfl⟩ := ry
  obtain ⟨its, r, pl, hz⟩ := I.list hq
  obtain ⟨j, h1, h2, h3, h4, h5⟩ := atI_get he
  obtain ⟨w, ew, rw'⟩ := r.get h2
  have hl := r.length
  have hn := line63
  have fin : EP X pins σ Q w s := ⟨z, H, I, rw', q⟩
  by_cases h0 : 0 ≤ i
  · have hj : i.toNat = j := by
      rw [seqIndex_of h0 h5] at h1
      exact Option.some.inj h1
    exact PySem.wpAny_getItem_list pl.isList h0 (by omega) (by rw [hj]; simpa using ew) fin
  · have hj : (i + (its.toArray.size : Int)).toNat = j := by
      rw [seqIndex_neg (by omega) h4] at h1
      rw [List.size_toArray, ← hl]
      exact Option.some.inj h1
    exact PySem.wpAny_getItem_list_neg pl.isList (by omega) (by rw [List.size_toArray] <;> omega) (by omega) (by rw [hj]; simpa using ew) fin
end
/-- what a step counts for the state j, of 2 ** 60 -/
def shT (j : Nat) : Th → Int
  | .tup [.int m, .int s] => if s = (j : Int) then 2 ^ (60 - m).toNat else 0
  | _ => 0
def shS (ss : List Th) (j : Nat) : Int := (ss.map (shT j)).sum
def shE : Th → Int
  | .int e => 2 ^ (60 - e).toNat
  | _ => 0
def shL (ss : List Th) (n : Nat) (a : Int) : List V := ((List.range n).map fun j => V.int (shS ss j)) ++ [V.int a]
theorem shL_len (ss : List Th) (n : Nat) (a : Int) : (shL ss n a).length = n + 1 := by unfold shL; rw [List.length_append, List.length_map, List.length_range]; rfl
theorem shL_get {ss : List Th} {n j : Nat} {a : Int} (h : j < n) : (shL ss n a)[j]? = some (.int (shS ss j)) := by
  unfold shL
  rw [List.getElem?_append_left (by rw [List.length_map, List.length_range]; exact h), List.getElem?_map, List.getElem?_range h]; rfl
theorem shL_last {ss : List Th} {n : Nat} {a : Int} : (shL ss n a)[n]? = some (.int a) := by
  unfold shL
  rw [List.getElem?_append_right (by rw [List.length_map, List.length_range]; exact Nat.le_refl _), List.length_map, List.length_range, Nat.sub_self]; rfl
theorem shL_ext {ss : List Th} {n : Nat} {a : Int} {xs : List V} (hl : xs.length = n + 1) (h : ∀ j, j < n → xs[j]? = some (.int (shS ss j))) (hn : xs[n]? = some (.int a)) : xs = shL ss n a := by
  refine List.ext_getElem? fun i => ?_
  by_cases h1 : i < n
  · rw [h i h1, shL_get h1]
  · by_cases h2 : i = n
    · subst h2; rw [hn, shL_last]
    · rw [List.getElem?_eq_none (by omega), List.getElem?_eq_none (by rw [shL_len]; omega)]
theorem shS_snoc (ss : List Th) (st : Th) (j : Nat) : shS (ss ++ [st]) j = shS ss j + shT j st := by
  unfold shS
  rw [List.map_append, List.sum_append]
  show _ + (shT j st + 0) = _
  omega
def spShares : Sp := fun vs H Q _ => ∃ (Z : Zone) (r : Th) (v : V) (z : Int) (n : Nat), vs = [v, .int (n : Nat)] ∧ At Z H r v ∧ rowB z (n : Int) r = true ∧ z ≤ 8 ∧ n ≤ 30 ∧ ∀ N H', Same H H' → H N = none → H' N = some (.lst (shL (stepsOf r) n (shE (endOf r)))) → Q (.ref N) H'
section
variable {P : Program} {w : World} {K : PySem.W.Frag} {mg : Str → Option Value} {base : Heap} {k : Nat} {t1 t2 t3 : Tok}
theorem ok_shares (M : Ms mg t1 t2 t3) (d : Def K mg "shares" s_shares ["row", "states"]) : Cal P w K mg base CX0 (k + 1) "shares" ["row", "states"] spShares := by
  refine d.ok sc_shares (fun vs H Q E h => ?_) (fun f cdv A outer s H vs Q E hr h => ?_)
  · obtain ⟨_, _, _, _, _, rfl, _⟩ := h; rfl
  obtain ⟨Zn, r, v, z, n, rfl, h, hr2, z8, n30, q⟩ := h
  refine ⟨_, (pss_cons (ps_asg (pv 0) (pg_tup (by rfl) (pgs_cons (pg_name (i := 2) sc_shares.nd rfl (Or.inl rfl)) (pgs_cons (pg_name (i := 3) sc_shares.nd rfl (Or.inl rfl)) pgs_nil))))
      (pss_cons (ps_set (i := 4) sc_shares.nd rfl (Or.inl rfl) (pe_op op_rep (pe_lst (pa_cons pe_int pa_nil)) (pe_op op_add (pv 1) pe_int)))
      (pss_cons (ps_for PassesOwn.never rfl (pi_tup (pv 3)) (pg_name (i := 5) sc_shares.nd rfl (Or.inl rfl)) (pss_one (ps_if (pt_cmpR op_notN (pv 5) pe_non (nomark _)) (pss_cons (ps_asg (pv 5) (pg_tup (by rfl) (pgs_cons (pg_name (i := 6) sc_shares.nd rfl (Or.inl rfl)) (pgs_cons (pg_name (i := 7) sc_shares.nd rfl (Or.inl rfl)) pgs_nil))))
      (pss_one (ps_augS (pv 4) (pv 7) get_list (pe_op op_shl pe_int (pe_op op_sub (pe_glob (v := .int 60) (by rfl) M.MOST_BITS ⟨_, rfl⟩) (pv 6))) ip_add set_list))) pss_nil)))
      (pss_cons (ps_if (pt_cmpR op_notN (pv 2) pe_non (nomark _)) (pss_one (ps_asg (pe_op op_shl pe_int (pe_op op_sub (pe_glob (v := .int 60) (by rfl) M.MOST_BITS ⟨_, rfl⟩) (pv 2))) (pg_sub (pv 4) (pv 1) set_list))) pss_nil)
      (pss_one (ps_ret (pv 4))))))), ?_⟩
  obtain ⟨e, ss, rfl, h1, h2, h3⟩ := rowB_is hr2
  obtain ⟨p, ve, w', rfl, ep, b1, b2⟩ := h.pair
  obtain ⟨ps, us, rfl, _, eps, as'⟩ := b2
  have ls := as'.len
  refine ⟨_, rfl, p, _, rfl, .of ep, rfl, _, _, rfl, _, _, rfl, rfl, ?_⟩
  refine ⟨(by show 1 ≤ sizeLine; decide), fun O nO => ?_⟩
  have yO := same_new nO (.lst [V.int 0])
  refine ⟨_, rfl, _, _, rfl, rfl, O, _, _, rfl, rfl, upd_same, by omega, by omega, by rw [sizeLine_eq]; show 1 * _ ≤ _; omega, fun F nF => ?_⟩
  have e0 : (List.replicate ((n : Int) + 1).toNat [V.int 0]).flatten = shL [] n 0 := by
    have := repV_single ((n : Int) + 1) (V.int 0)
    unfold repV at this
    rw [this]
    refine shL_ext (by rw [List.length_replicate]; omega) (fun j hj => ?_) ?_
    · rw [List.getElem?_replicate, if_pos (by omega)]; rfl
    · rw [List.getElem?_replicate, if_pos (by omega)]
  rw [e0]
  have yF := same_new nF (.lst (shL [] n 0))
  have sF := yO.trans yF
  have nFH : H F = none := Same.free yO nF
  refine ⟨_, rfl, ps, rfl, ⟨_, .of (sF _ _ eps)⟩, ?_⟩
  refine for_tup (xs := us) (fun i σ' H' => Same H H' ∧ ∃ y5 y6 y7 : Option V, σ' = [some (.ref p), some (.int (n : Nat)), some ve, some (.ref ps), some (.ref F), y5, y6, y7] ∧ H' F = some (.lst (shL (ss.take i) n 0))) ⟨sF, none, none, none, rfl, upd_same⟩ (fun i σ' H' _ hh => .of (hh.1 _ _ eps)) (fun i x σ' H' ex hh => ?_) (fun σ' H' hh => ?_)
  · obtain ⟨s', y5, y6, y7, rfl, eF⟩ := hh
    have tk : ∀ {st : Th}, ss[i]? = some st → ss.take (i + 1) = ss.take i ++ [st] := fun h => by rw [List.take_add_one, h]; rfl
    rcases st_get (as'.same s') h3 ex with ⟨f1, rfl⟩ | ⟨q2, m, s2, f1, rfl, f2, _, m0, m1, s0, s1⟩
    · refine ⟨_, rfl, rfl, _, rfl, iteF ⟨s', _, _, _, rfl, ?_⟩⟩
      rw [eF, tk f1]
      congr 2
      refine shL_ext (shL_len _ _ _) (fun j hj => ?_) shL_last
      rw [shL_get hj, shS_snoc]
      show some (V.int (shS _ j)) = some (V.int (shS _ j + 0))
      rw [Int.add_zero]
    · refine ⟨_, rfl, rfl, _, rfl, iteT ?_⟩
      obtain ⟨j0, rfl⟩ : ∃ j0 : Nat, s2 = (j0 : Int) := ⟨s2.toNat, by omega⟩
      have hj0 : j0 < n := by omega
      refine ⟨_, rfl, q2, _, rfl, .of f2, rfl, _, _, rfl, _, _, rfl, rfl, ?_⟩
      refine ⟨_, rfl, _, rfl, F, _, _, _, rfl, rfl, .inl (.of eF), atI_nat (shL_get hj0), _, rfl, _, _, rfl, rfl, _, _, rfl, rfl, ⟨by omega, by omega, by decide⟩, _, _, rfl, rfl, F, _, _, j0, rfl, rfl, eF, ixT (by rw [shL_len]; omega), ?_⟩
      refine ⟨Same.upd_new s' nFH _, _, _, _, rfl, ?_⟩
      rw [upd_same, tk f1]
      congr 2
      refine shL_ext (by rw [List.length_set, shL_len]) (fun j hj => ?_) ?_
      · by_cases e1 : j = j0
        · subst e1
          rw [List.getElem?_set_self (by rw [shL_len]; omega), shS_snoc]
          show some (V.int (shS _ j + 1 * 2 ^ (60 - m).toNat)) = some (V.int (shS _ j + if (j : Int) = (j : Int) then 2 ^ (60 - m).toNat else 0))
          rw [if_pos rfl, Int.one_mul]
        · rw [List.getElem?_set_ne (fun h => e1 h.symm), shL_get hj, shS_snoc]
          show some (V.int (shS _ j)) = some (V.int (shS _ j + if (j0 : Int) = (j : Int) then 2 ^ (60 - m).toNat else 0))
          rw [if_neg (by omega), Int.add_zero]
      · rw [List.getElem?_set_ne (by omega), shL_last]
  · obtain ⟨s', y5, y6, y7, rfl, eF⟩ := hh
    rw [ls, List.take_length] at eF
    rcases h1 with rfl | ⟨i0, rfl, i1, i60⟩
    · cases (show ve = .non from b1)
      refine ⟨_, rfl, rfl, _, rfl, iteF ⟨_, rfl, q F H' s' nFH eF⟩⟩
    · cases (show ve = .int i0 from b1)
      refine ⟨_, rfl, rfl, _, rfl, iteT ?_⟩
      refine ⟨_, rfl, _, _, rfl, rfl, _, _, rfl, rfl, ⟨by omega, by omega, by decide⟩, _, rfl, _, rfl, F, _, _, n, rfl, rfl, eF, ixT (by rw [shL_len]; omega), ?_⟩
      refine ⟨_, rfl, q F _ (Same.upd_new s' nFH _) nFH ?_⟩
      rw [upd_same]
      congr 2
      refine shL_ext (by rw [List.length_set, shL_len]) (fun j hj => ?_) ?_
      · rw [List.getElem?_set_ne (by omega), shL_get hj]; rfl
      · rw [List.getElem?_set_self (by rw [shL_len]; omega)]
        show some (V.int (1 * 2 ^ (60 - i0).toNat)) = some (V.int (2 ^ (60 - i0).toNat))
        rw [Int.one_mul]
end
end KL
end
section
set_option maxHeartbeats 1000000
namespace KL
open PySem PySem.Spec PyProof.Rows L2
abbrev sc_clearedN : List Str := ["row", "chosen", "at", "last", "here", "there"]
abbrev s_cleared : Stmt := topS 38
theorem sc_cleared : FnScope ["row", "chosen", "at", "last", "here", "there"] ["row", "chosen", "at", "last"] (defScope s_cleared) := ⟨rfl, rfl, rfl, by decide +kernel, rfl, by decide +kernel, by decide +kernel⟩
/-- a row of integers -/
def rowV (f : Nat → Int) (n : Nat) : List V := (List.range n).map fun j => V.int (f j)
theorem rowV_len (f : Nat → Int) (n : Nat) : (rowV f n).length = n := by unfold rowV; rw [List.length_map, List.length_range]
theorem rowV_get {f : Nat → Int} {n j : Nat} (h : j < n) : (rowV f n)[j]? = some (.int (f j)) := by unfold rowV; rw [List.getElem?_map, List.getElem?_range h]; rfl
theorem rowV_of {f : Nat → Int} {n j : Nat} {v : V} (h : (rowV f n)[j]? = some v) : j < n ∧ v = .int (f j) := by
  have hj : j < n := by have := (List.getElem?_eq_some_iff.mp h).1; rwa [rowV_len] at this
  rw [rowV_get hj] at h
  exact ⟨hj, (Option.some.inj h).symm⟩
theorem rowV_congr {f g : Nat → Int} {n : Nat} (h : ∀ j, j < n → f j = g j) : rowV f n = rowV g n := by
  unfold rowV
  exact List.map_congr_left fun j m => by rw [h j (List.mem_range.mp m)]
theorem rowV_succ (f : Nat → Int) (n : Nat) : rowV f (n + 1) = rowV f n ++ [.int (f n)] := by unfold rowV; rw [List.range_succ, List.map_append]; rfl
theorem rowV_ext {f : Nat → Int} {n : Nat} {xs : List V} (hl : xs.length = n) (h : ∀ j, j < n → xs[j]? = some (.int (f j))) : xs = rowV f n := by
  refine List.ext_getElem? fun i => ?_
  by_cases h1 : i < n
  · rw [h i h1, rowV_get h1]
  · rw [List.getElem?_eq_none (by omega), List.getElem?_eq_none (by rw [rowV_len]; omega)]
/-- the equations' table: the unknowns' columns, the right side, and behind it each equation's own column -/
def eqr (rows : List Th) (i j : Nat) : Int :=
  if j < rows.length then (if j = i then 2 ^ 60 else 0) - shS (stepsOf ((rows[i]?).getD .non)) j
  else if j = rows.length then shE (endOf ((rows[i]?).getD .non)) else if j = rows.length + 1 + i then 1 else 0
theorem cutV_init (xs : List V) : cutV xs none (some (-1)) = xs.take (xs.length - 1) := by
  unfold cutV
  rw [show HT.sIx xs.length 0 none = 0 from rfl, List.drop_zero, show HT.sIx xs.length xs.length (some (-1)) = ((-1 : Int) + (xs.length : Int)).toNat from rfl]
  congr 1
  omega
def spEqn : Sp := fun vs H Q _ => ∃ (Z : Zone) (pr : Addr) (us : List V) (z : Int) (rows : List Th) (i : Nat), vs = [.ref pr, .int (i : Nat)] ∧ H pr = some (.tup us) ∧ AtAll Z H rows us ∧ MOk z rows ∧ i < rows.length ∧ ∀ N H', Same H H' → H N = none → H' N = some (.lst (rowV (eqr rows i) (rows.length + 1))) → Q (.ref N) H'
def lowT (a b : Int) : Int := a / ((Nat.gcd a.natAbs b.natAbs : Nat) : Int)
def spLowest : Sp := fun vs H Q _ => ∃ (a b : Int), vs = [.int a, .int b] ∧ 0 < b ∧ b.natAbs < 2 ^ 4000 ∧ ∀ p H', Same H H' → H p = none → H' p = some (.tup [.int (lowT a b), .int (b / ((Nat.gcd a.natAbs b.natAbs : Nat) : Int))]) → Q (.ref p) H'
def spCleared : Sp := fun vs H Q _ => ∃ (a b : Addr) (f g : Nat → Int) (n c : Nat) (l : Int), vs = [.ref a, .ref b, .int (c : Nat), .int l] ∧ H a = some (.lst (rowV f n)) ∧ H b = some (.lst (rowV g n)) ∧ n ≤ 100 ∧ c < n ∧ 0 < l ∧ l.natAbs < 2 ^ 4000 ∧ (∀ j, j < n → (f j).natAbs < 2 ^ 4000) ∧ (∀ j, j < n → (g j).natAbs < 2 ^ 4000) ∧
  ∀ N H', Same H H' → H N = none → H' N = some (.lst (rowV (fun j => (g c * f j - f c * g j) / l) n)) → Q (.ref N) H'
section
variable {P : Program} {w : World} {K : PySem.W.Frag} {mg : Str → Option Value} {base : Heap} {k : Nat} {t1 t2 t3 : Tok}
theorem ok_lowest (G : Gs mg) (d : Def K mg "lowest" s_lowest ["top", "bottom"]) : Cal P w K mg base CX0 (k + 1) "lowest" ["top", "bottom"] spLowest := by
  refine d.ok sc_lowest (fun vs H Q E h => ?_) (fun f cdv A outer s H vs Q E hr h => ?_)
  · obtain ⟨_, _, rfl, _⟩ := h; rfl
  obtain ⟨a, b, rfl, b0, bb, q⟩ := h
  refine ⟨_, (pss_cons (ps_set (i := 2) sc_lowest.nd rfl (Or.inl rfl) (pe_callMB (id := "math.gcd") cr_gcd (by rfl) G.gcd (pa_cons (pv 0) (pa_cons (pv 1) pa_nil))))
      (pss_one (ps_ret (pe_tup (pa_cons (pe_op op_fdivW (pv 0) (pv 2)) (pa_cons (pe_op op_fdivW (pv 1) (pv 2)) pa_nil)))))), ?_⟩
  have g0 : 0 < Nat.gcd a.natAbs b.natAbs := Nat.gcd_pos_of_pos_right _ (by omega)
  have g1 : Nat.gcd a.natAbs b.natAbs ≤ b.natAbs := Nat.gcd_le_right _ (by omega)
  have cd : ∀ i, CDivW i ((Nat.gcd a.natAbs b.natAbs : Nat) : Int) := fun i => wide_div (by omega) (b := 4000) (by rw [Int.natAbs_natCast]; omega) (by decide) (by decide)
  refine ⟨_, rfl, _, rfl, _, _, rfl, ?_⟩
  refine ⟨_, rfl, _, rfl, _, _, rfl, rfl, cd _, _, rfl, _, rfl, _, _, rfl, rfl, cd _, (by show 2 ≤ sizeLine; decide), fun p hp => ?_⟩
  exact q p _ (same_new hp _) hp upd_same
theorem ok_cleared (G : Gs mg) (d : Def K mg "cleared" s_cleared ["row", "chosen", "at", "last"]) : Cal P w K mg base CX0 (k + 1) "cleared" ["row", "chosen", "at", "last"] spCleared := by
  refine d.ok sc_cleared (fun vs H Q E h => ?_) (fun fa cdv A outer s H vs Q E hr h => ?_)
  · obtain ⟨_, _, _, _, _, _, _, rfl, _⟩ := h; rfl
  obtain ⟨a, b, f, g, n, c, l, rfl, ea, eb, n100, hc, l0, lb, fb, gb, q⟩ := h
  refine ⟨_, (pss_one (ps_ret (pe_lc (own := [("here", 4), ("there", 5)]) (g := (gTup K 2 (gCons (gName 4) (gCons (gName 5) gNil)))) (tt := tYes) rfl sc_cleared.nd (pi_zip (by rfl) G.zip (pa_cons (pv 0) (pa_cons (pv 1) pa_nil))) (blkOk_by (N := ["row", "chosen", "at", "last", "here", "there"]) (sc := defScope s_cleared) (by decide +kernel)) (fun _ _ _ _ _ => (pg_tup (by rfl) (pgs_cons (pg_name (i := 4) sc_cleared.nd rfl (Or.inl rfl)) (pgs_cons (pg_name (i := 5) sc_cleared.nd rfl (Or.inl rfl)) pgs_nil)))) (fun _ _ _ _ _ => pts_nil) (fun _ _ _ _ _ => (pe_op op_fdivW (pe_op op_sub (pe_op op_mulW (pe_ix (r := rIxL K) ix_list (pv 1) (pv 2) (fun _ _ => rfl)) (pv 4)) (pe_op op_mulW (pe_ix (r := rIxL K) ix_list (pv 0) (pv 2) (fun _ _ => rfl)) (pv 5))) (pv 3)))))), ?_⟩
  refine ⟨_, rfl, _, rfl, a, b, _, _, rfl, .inl (.of ea), .inl (.of eb), fun D hD => lc_it (walk_zip (n := n) (by rw [rowV_len, rowV_len]; omega)) (fun j G => Same H G ∧ G D = some (.lst (rowV (fun j => (g c * f j - f c * g j) / l) j))) ⟨same_new hD _, upd_same⟩ (fun j G _ p2 => ⟨.inl (.of (p2.1 _ _ ea)), .inl (.of (p2.1 _ _ eb))⟩) (fun j x G G' hj p2 y => ?_) (fun G p2 => q D G p2.1 hD p2.2)⟩
  obtain ⟨sG, eD⟩ := p2
  obtain ⟨T, k1, k2, rfl, nT, rfl, g1, g2⟩ := y
  obtain ⟨_, rfl⟩ := rowV_of g1
  obtain ⟨_, rfl⟩ := rowV_of g2
  have yT := same_new nT (.tup [V.int (f j), V.int (g j)])
  have sT := sG.trans yT
  have eD' := yT _ _ eD
  have wm : ∀ {x y : Int}, x.natAbs < 2 ^ 4000 → y.natAbs < 2 ^ 4000 → CMulW x y := fun h1 h2 => wide_mul h1 h2 (by decide) (by decide) (by decide)
  refine ⟨T, _, rfl, .of upd_same, rfl, _, _, rfl, _, _, rfl, rfl, rfl, ?_⟩
  refine ⟨_, rfl, _, rfl, b, _, _, _, rfl, rfl, .inl (.of (sT _ _ eb)), atI_nat (rowV_get hc), _, rfl, _, _, rfl, rfl, wm (gb c hc) (fb j hj), _, rfl, _, rfl, a, _, _, _, rfl, rfl, .inl (.of (sT _ _ ea)), atI_nat (rowV_get hc), _, rfl, _, _, rfl, rfl, wm (fb c hc) (gb j hj), _, _, rfl, rfl, _, rfl, _, _, rfl, rfl, wide_div l0 lb (by decide) (by decide), ?_⟩
  refine ⟨_, eD', by rw [rowV_len, sizeLine_eq]; omega, Same.upd_new sT hD _, ?_⟩
  rw [upd_same, rowV_succ]
end
end KL
end
section
set_option maxHeartbeats 1000000
namespace KL
open PySem PySem.Spec PyProof.Rows L2
section
variable {P : Program} {w : World} {K : PySem.W.Frag} {mg : Str → Option Value} {base : Heap} {k : Nat} {t1 t2 t3 : Tok}
theorem ok_equation (Z : Zs mg) (M : Ms mg t1 t2 t3) (c_shares : Cal P w K mg base CX0 k "shares" ["row", "states"] spShares) (d : Def K mg "equation" s_equation ["rows", "state"]) : Cal P w K mg base CX0 (k + 1) "equation" ["rows", "state"] spEqn := by
  refine d.ok sc_equation (fun vs H Q E h => ?_) (fun f cdv A outer s H vs Q E hr h => ?_)
  · obtain ⟨_, _, _, _, _, _, rfl, _⟩ := h; rfl
  obtain ⟨Zn, pr, us, z, rows, i, rfl, epr, ar, ok, hi, q⟩ := h
  refine ⟨_, (pss_cons (ps_set (i := 2) sc_equation.nd rfl (Or.inl rfl) (pe_cal c_shares hr (by rfl) (pa_cons (pe_ix ix_tup (pv 0) (pv 1) (fun _ _ => rfl)) (pa_cons (pe_callB (id := "len") call_len_seq (by rfl) Z.len (by decide +kernel) (pa_cons (pv 0) pa_nil)) pa_nil))))
      (pss_cons (ps_setLc (i := 3) (own := [("share", 4)]) (g := gName 4) (tt := tYes) rfl sc_equation.nd rfl rfl (sw_true rfl rfl rfl (by decide +kernel)) (pi_list (pe_slice sl_list (pv 2) po_none (po_some (pe_un un_neg pe_int)))) (blkOk_by (N := ["rows", "state", "found", "left", "share"]) (sc := defScope s_equation) (by decide +kernel)) (fun _ _ _ _ _ => (pg_name (i := 4) sc_equation.nd rfl (Or.inl rfl))) (fun _ _ _ _ _ => pts_nil) (fun _ _ _ _ _ => (pe_un un_neg (pv 4))))
      (pss_cons (ps_augS (pv 3) (pv 1) get_list (pe_op op_shl pe_int (pe_glob (v := .int 60) (by rfl) M.MOST_BITS ⟨_, rfl⟩)) ip_add set_list)
      (pss_one (ps_ret (pe_op op_cat (pv 3) (pe_lst (pa_cons (pe_ix ix_list (pv 2) (pe_un un_neg pe_int) (fun _ _ => rfl)) pa_nil)))))))), ?_⟩
  have n30 := ok.n30
  have lu := ar.len
  have er := List.getElem?_eq_getElem hi
  obtain ⟨v, ev, hv⟩ := ar.at er
  have rb := ok.r rows[i] (List.getElem_mem hi)
  have eD : (rows[i]?).getD .non = rows[i] := by rw [er]; rfl
  generalize rows[i] = r at *
  generalize hn : rows.length = n at *
  refine ⟨_, rfl, _, rfl, pr, us, _, v, rfl, rfl, .of epr, atI_nat ev, _, rfl, pr, us, rfl, .inr (.of epr), Zn, r, v, z, n, (by rw [lu]; rfl), hv, rb, ok.z8, n30, fun N H1 s1 nN eN => ?_⟩
  generalize hss : stepsOf r = ss at *
  generalize hee : shE (endOf r) = e at *
  refine ⟨_, rfl, 1, rfl, _, rfl, N, _, rfl, .of eN, fun C nC => ?_⟩
  rw [show (-1 : Int) = -1 from rfl, cutV_init, shL_len, Nat.add_sub_cancel]
  have yC := same_new nC (.lst ((shL ss n e).take n))
  have eN1 := yC _ _ eN
  have s2 := s1.trans yC
  have eC : (upd H1 C (.lst ((shL ss n e).take n))) C = some (.lst ((shL ss n e).take n)) := upd_same
  generalize upd H1 C (.lst ((shL ss n e).take n)) = H2 at *
  have lt : ((shL ss n e).take n).length = n := by rw [List.length_take, shL_len]; omega
  refine ⟨C, rfl, ⟨_, .of eC⟩, ?_⟩
  refine lc_valW (f := fun j => V.int (- shS ss j)) (p := fun _ => true) walk_list (fun _ _ _ _ h => h) (fun H' s' => .of (s' _ _ eC)) (by omega) (fun _ => rfl) (fun j x G hj ex sG R hR => hR G (Same.refl G)) (fun j x G hj ex hp sG R hR => ?_) (fun L H3 s3 nL eL => ?_)
  · rw [lt] at hj
    have ex' : ((shL ss n e).take n)[j]? = some x := ex
    rw [List.getElem?_take, if_pos hj, shL_get hj] at ex'
    cases ex'
    exact ⟨_, rfl, _, rfl, hR G (Same.refl G)⟩
  rw [filt_all, lt] at eL
  have eL' : H3 L = some (.lst (rowV (fun j => - shS ss j) n)) := eL
  have s03 := s2.trans s3
  have nLH : H L = none := Same.free s2 nL
  refine ⟨_, rfl, _, rfl, L, _, _, _, rfl, rfl, .inl (.of eL'), atI_nat (rowV_get hi), _, _, rfl, rfl, ⟨by decide, by decide, by decide⟩, _, _, rfl, rfl, L, _, _, i, rfl, rfl, eL', ixT (by rw [rowV_len]; omega), ?_⟩
  have s04 := Same.upd_new s03 nLH (.lst ((rowV (fun j => - shS ss j) n).set i (.int (-shS ss i + 1 * 2 ^ (60 : Int).toNat))))
  have eN4 : (upd H3 L (.lst ((rowV (fun j => - shS ss j) n).set i (.int (-shS ss i + 1 * 2 ^ (60 : Int).toNat))))) N = some (.lst (shL ss n e)) := by
    rw [upd_ne (fun h => by rw [h] at eN1; rw [nL] at eN1; cases eN1)]
    exact s3 _ _ eN1
  have eL4 : (upd H3 L (.lst ((rowV (fun j => - shS ss j) n).set i (.int (-shS ss i + 1 * 2 ^ (60 : Int).toNat))))) L = some (.lst ((rowV (fun j => - shS ss j) n).set i (.int (-shS ss i + 1 * 2 ^ (60 : Int).toNat)))) := upd_same
  generalize upd H3 L (.lst ((rowV (fun j => - shS ss j) n).set i (.int (-shS ss i + 1 * 2 ^ (60 : Int).toNat)))) = H4 at *
  have hl : atI (shL ss n e) (-1) = some (.int e) := by unfold shL; exact atI_last _ _
  refine ⟨_, rfl, _, rfl, 1, rfl, N, _, _, _, rfl, rfl, .inl (.of eN4), hl, (by show 1 ≤ sizeLine; decide), fun B nB => ?_⟩
  have yB := same_new nB (.lst [V.int e])
  refine ⟨L, B, _, _, rfl, rfl, yB _ _ eL4, upd_same, by rw [List.length_set, rowV_len, sizeLine_eq]; show n + 1 ≤ _; omega, fun R nR => ?_⟩
  have yR := same_new nR (.lst ((rowV (fun j => - shS ss j) n).set i (.int (-shS ss i + 1 * 2 ^ (60 : Int).toNat)) ++ [V.int e]))
  refine q R _ (s04.trans (yB.trans yR)) (Same.free (s04.trans yB) nR) ?_
  rw [upd_same]
  congr 2
  refine rowV_ext (by rw [List.length_append, List.length_set, rowV_len]; rfl) fun j hj => ?_
  by_cases h1 : j < n
  · rw [List.getElem?_append_left (by rw [List.length_set, rowV_len]; exact h1)]
    unfold eqr
    rw [hn, if_pos h1, eD, hss]
    by_cases h2 : j = i
    · subst h2
      rw [List.getElem?_set_self (by rw [rowV_len]; exact h1), if_pos rfl]
      congr 2
      rw [show (60 : Int).toNat = 60 from rfl]
      omega
    · rw [List.getElem?_set_ne (fun h => h2 h.symm), rowV_get h1, if_neg h2]
      congr 2
      omega
  · have : j = n := by omega
    subst this
    rw [List.getElem?_append_right (by rw [List.length_set, rowV_len]; exact Nat.le_refl _), List.length_set, rowV_len, Nat.sub_self]
    unfold eqr
    rw [hn, if_neg h1, if_pos rfl, eD, hee]
    rfl
end
end KL
end
section
namespace KL
/-! ### determinants by rows, and elimination within integers -/
def sumN : Nat → (Nat → Int) → Int
  | 0, _ => 0
  | n + 1, f => sumN n f + f n
theorem sumN_congr {f g : Nat → Int} : ∀ {n : Nat}, (∀ i, i < n → f i = g i) → sumN n f = sumN n g
  | 0, _ => rfl
  | n + 1, h => by rw [sumN, sumN, sumN_congr (fun i hi => h i (by omega)), h n (by omega)]
theorem sumN_zero {f : Nat → Int} : ∀ {n : Nat}, (∀ i, i < n → f i = 0) → sumN n f = 0
  | 0, _ => rfl
  | n + 1, h => by rw [sumN, sumN_zero (fun i hi => h i (by omega)), h n (by omega)]; rfl
theorem sumN_add (f g : Nat → Int) : ∀ n, sumN n (fun i => f i + g i) = sumN n f + sumN n g
  | 0 => rfl
  | n + 1 => by rw [sumN, sumN, sumN, sumN_add f g n]; omega
theorem sumN_mul (c : Int) (f : Nat → Int) : ∀ n, sumN n (fun i => c * f i) = c * sumN n f
  | 0 => by rw [sumN, sumN, Int.mul_zero]
  | n + 1 => by rw [sumN, sumN, sumN_mul c f n, Int.mul_add]
theorem sumN_neg (f : Nat → Int) : ∀ n, sumN n (fun i => - f i) = - sumN n f
  | 0 => rfl
  | n + 1 => by rw [sumN, sumN, sumN_neg f n]; omega
theorem sumN_one {f : Nat → Int} {q : Nat} : ∀ {n : Nat}, q < n → (∀ i, i < n → i ≠ q → f i = 0) → sumN n f = f q
  | 0, h, _ => by omega
  | n + 1, h, z => by
    rw [sumN]
    by_cases e : q = n
    · subst e
      rw [sumN_zero (fun i hi => z i (by omega) (by omega))]; omega
    · rw [sumN_one (show q < n by omega) (fun i hi ne => z i (by omega) ne), z n (by omega) (by omega)]; omega
/-- two neighbours exchanged -/
def sw (a x : Nat) : Nat := if x = a then a + 1 else if x = a + 1 then a else x
def skip (p x : Nat) : Nat := if x < p then x else x + 1
theorem sumN_sw (g : Nat → Int) (a : Nat) : ∀ n, a + 1 < n → sumN n (fun p => g (sw a p)) = sumN n g
  | 0, h => by omega
  | n + 1, h => by
    by_cases e : a + 1 < n
    · rw [sumN, sumN, sumN_sw g a n e, show sw a n = n by unfold sw; rw [if_neg (by omega), if_neg (by omega)]]
    · have en : n = a + 1 := by omega
      subst en
      rw [sumN, sumN, sumN, sumN, sumN_congr (g := g) (fun i hi => by rw [show sw a i = i by unfold sw; rw [if_neg (by omega), if_neg (by omega)]])]
      rw [show sw a a = a + 1 by unfold sw; rw [if_pos rfl], show sw a (a + 1) = a by unfold sw; rw [if_neg (by omega), if_pos rfl]]
      omega
def sg (m : Nat) : Int := if m % 2 = 0 then 1 else -1
theorem sg_succ (m : Nat) : sg (m + 1) = - sg m := by
  unfold sg
  by_cases h : m % 2 = 0
  · rw [if_neg (by omega), if_pos h]
  · rw [if_pos (by omega), if_neg h]; rfl
/-- the determinant of the first n rows by so many columns, along the last row -/
def Dt (r : Nat → Nat → Int) : Nat → (Nat → Nat) → Int
  | 0, _ => 1
  | n + 1, cols => sumN (n + 1) fun p => sg (n + p) * r n (cols p) * Dt r n (fun x => cols (skip p x))
variable {r : Nat → Nat → Int}
theorem Dt_congr : ∀ {n : Nat} {c d : Nat → Nat}, (∀ x, x < n → c x = d x) → Dt r n c = Dt r n d
  | 0, _, _, _ => rfl
  | n + 1, c, d, h => by
    rw [Dt, Dt]
    refine sumN_congr fun p hp => ?_
    rw [h p hp, Dt_congr (fun x hx => h (skip p x) (by unfold skip; split <;> omega))]
theorem Dt_sw : ∀ {n : Nat} (a : Nat) (c : Nat → Nat), a + 1 < n → Dt r n (fun x => c (sw a x)) = - Dt r n c
  | 0, _, _, h => by omega
  | n + 1, a, c, h => by
    rw [Dt, Dt, ← sumN_neg, ← sumN_sw (fun i => -(sg (n + i) * r n (c i) * Dt r n fun x => c (skip i x))) a (n + 1) h]
    refine sumN_congr fun p hp => ?_
    by_cases e1 : p = a
    · subst e1
      rw [show sw p p = p + 1 by unfold sw; rw [if_pos rfl]]
      rw [show (fun x => c (sw p (skip p x))) = fun x => c (skip (p + 1) x) by
        funext x; unfold sw skip; congr 1; (repeat' split) <;> omega]
      rw [show n + (p + 1) = (n + p) + 1 by omega, sg_succ]
      grind
    · by_cases e2 : p = a + 1
      · subst e2
        rw [show sw a (a + 1) = a by unfold sw; rw [if_neg (by omega), if_pos rfl]]
        rw [show (fun x => c (sw a (skip (a + 1) x))) = fun x => c (skip a x) by
          funext x; unfold sw skip; congr 1; (repeat' split) <;> omega]
        rw [show n + (a + 1) = (n + a) + 1 by omega, sg_succ]
        grind
      · rw [show sw a p = p by unfold sw; rw [if_neg e1, if_neg e2]]
        have : (Dt r n fun x => c (sw a (skip p x))) = - Dt r n fun x => c (skip p x) := by
          by_cases lt : p < a
          · rw [show (fun x => c (sw a (skip p x))) = fun x => (fun y => c (skip p y)) (sw (a - 1) x) by
              funext x; unfold sw skip; congr 1; (repeat' split) <;> omega]
            exact Dt_sw (a - 1) (fun y => c (skip p y)) (by omega)
          · rw [show (fun x => c (sw a (skip p x))) = fun x => (fun y => c (skip p y)) (sw a x) by
              funext x; unfold sw skip; congr 1; (repeat' split) <;> omega]
            exact Dt_sw a (fun y => c (skip p y)) (by omega)
        rw [this]
        grind
theorem Dt_same {n : Nat} {c : Nat → Nat} : ∀ (m a : Nat), a + 1 + m < n → c a = c (a + 1 + m) → Dt r n c = 0 := by
  intro m
  induction m generalizing c with
  | zero =>
    intro a h e
    have h1 := Dt_sw (r := r) a c h
    rw [Dt_congr (d := c) (fun x hx => by
      unfold sw
      split
      · next q => subst q; exact e.symm
      · split
        · next q => subst q; exact e
        · rfl)] at h1
    omega
  | succ m ih =>
    intro a h e
    have h1 := Dt_sw (r := r) (a + 1 + m) c (by omega)
    have h2 := ih (c := fun x => c (sw (a + 1 + m) x)) a (by omega) (by
      show c (sw (a + 1 + m) a) = c (sw (a + 1 + m) (a + 1 + m))
      rw [show sw (a + 1 + m) a = a by unfold sw; rw [if_neg (by omega), if_neg (by omega)], show sw (a + 1 + m) (a + 1 + m) = a + 1 + (m + 1) by unfold sw; rw [if_pos rfl]; omega]
      exact e)
    omega
/-- rows put together -/
def InSpan (r : Nat → Nat → Int) (n : Nat) (f : Nat → Int) : Prop := ∃ c : Nat → Int, ∀ j, f j = sumN n fun t => c t * r t j
theorem InSpan.zero (n : Nat) : InSpan r n fun _ => 0 := ⟨fun _ => 0, fun j => (sumN_zero fun i _ => by rw [Int.zero_mul]).symm⟩
theorem InSpan.add {n : Nat} {f g : Nat → Int} (h : InSpan r n f) (k : InSpan r n g) : InSpan r n fun j => f j + g j := by
  obtain ⟨c, h⟩ := h
  obtain ⟨d, k⟩ := k
  refine ⟨fun t => c t + d t, fun j => ?_⟩
  dsimp only
  rw [h, k, ← sumN_add]
  exact sumN_congr fun i _ => by rw [Int.add_mul]
theorem InSpan.mul {n : Nat} {f : Nat → Int} (a : Int) (h : InSpan r n f) : InSpan r n fun j => a * f j := by
  obtain ⟨c, h⟩ := h
  refine ⟨fun t => a * c t, fun j => ?_⟩
  dsimp only
  rw [h, ← sumN_mul]
  exact sumN_congr fun i _ => by rw [Int.mul_assoc]
theorem InSpan.row {n t : Nat} (h : t < n) : InSpan r n (r t) := by
  refine ⟨fun i => if i = t then 1 else 0, fun j => ?_⟩
  rw [sumN_one h (fun i _ ne => by dsimp only; rw [if_neg ne, Int.zero_mul])]
  dsimp only
  rw [if_pos rfl, Int.one_mul]
theorem InSpan.up {n : Nat} {f : Nat → Int} (h : InSpan r n f) : InSpan r (n + 1) f := by
  obtain ⟨c, h⟩ := h
  refine ⟨fun i => if i = n then 0 else c i, fun j => ?_⟩
  rw [sumN]
  dsimp only
  rw [if_pos rfl, Int.zero_mul, Int.add_zero, h]
  exact sumN_congr fun i hi => by rw [if_neg (by omega)]
theorem InSpan.sum {n : Nat} {f : Nat → Nat → Int} : ∀ m, (∀ p, p < m → InSpan r n (f p)) → InSpan r n fun j => sumN m fun p => f p j
  | 0, _ => InSpan.zero n
  | m + 1, h => (InSpan.sum m fun p hp => h p (by omega)).add (h m (by omega))
theorem InSpan.congr {n : Nat} {f g : Nat → Int} (h : InSpan r n f) (e : ∀ j, g j = f j) : InSpan r n g := by
  obtain ⟨c, h⟩ := h
  exact ⟨c, fun j => (e j).trans (h j)⟩
def upc (c : Nat → Nat) (q j : Nat) : Nat → Nat := fun x => if x = q then j else c x
theorem Dt_span : ∀ {n : Nat} (q : Nat) (c : Nat → Nat), q < n → InSpan r n fun j => Dt r n (upc c q j)
  | 0, _, _, h => by omega
  | n + 1, q, c, h => by
    have : (fun j => Dt r (n + 1) (upc c q j)) = fun j => sumN (n + 1) fun p => sg (n + p) * r n (upc c q j p) * Dt r n (fun x => upc c q j (skip p x)) := rfl
    rw [this]
    refine InSpan.sum (n + 1) (f := fun p j => sg (n + p) * r n (upc c q j p) * Dt r n (fun x => upc c q j (skip p x))) fun p hp => ?_
    by_cases e : p = q
    · subst e
      refine (InSpan.mul (sg (n + p) * Dt r n (fun x => c (skip p x))) (InSpan.row (t := n) (by omega))).congr fun j => ?_
      rw [show upc c p j p = j by unfold upc; rw [if_pos rfl], Dt_congr (d := fun x => c (skip p x)) (fun x _ => by unfold upc skip; (try dsimp only); (repeat' split) <;> first | rfl | omega | (congr 1 <;> omega))]
      grind
    · have hh : ∃ q', q' < n ∧ ∀ j x, upc c q j (skip p x) = upc (fun y => c (skip p y)) q' j x := by
        by_cases lt : q < p
        · exact ⟨q, by omega, fun j x => by unfold upc skip; (try dsimp only); (repeat' split) <;> first | rfl | omega | (congr 1 <;> omega)⟩
        · exact ⟨q - 1, by omega, fun j x => by unfold upc skip; (try dsimp only); (repeat' split) <;> first | rfl | omega | (congr 1 <;> omega)⟩
      obtain ⟨q', hq, hx⟩ := hh
      refine ((Dt_span q' (fun y => c (skip p y)) hq).up.mul (sg (n + p) * r n (c p))).congr fun j => ?_
      rw [show upc c q j p = c p by unfold upc; rw [if_neg e], Dt_congr (fun x _ => hx j x)]
/-- the leading minors, and the rows of elimination -/
def dk (r : Nat → Nat → Int) (k : Nat) : Int := Dt r k id
def Yk (r : Nat → Nat → Int) (k q j : Nat) : Int := Dt r k (upc id q j)
def Gk (r : Nat → Nat → Int) (k : Nat) (x : Nat → Int) (j : Nat) : Int := dk r k * x j - sumN k fun q => x q * Yk r k q j
theorem Yk_span {k q : Nat} (h : q < k) : InSpan r k (Yk r k q) := Dt_span q id h
theorem Yk_self {k q : Nat} : Yk r k q q = dk r k := Dt_congr fun x _ => by
  unfold upc
  by_cases e : x = q
  · rw [if_pos e]; exact e.symm
  · rw [if_neg e]
theorem Yk_other {k q c : Nat} (hq : q < k) (hc : c < k) (h : c ≠ q) : Yk r k q c = 0 := by
  unfold Yk
  by_cases lt : c < q
  · exact Dt_same (q - c - 1) c (by omega) (by rw [show c + 1 + (q - c - 1) = q by omega]; unfold upc; rw [if_neg h, if_pos rfl]; rfl)
  · exact Dt_same (c - q - 1) q (by omega) (by rw [show q + 1 + (c - q - 1) = c by omega]; unfold upc; rw [if_pos rfl, if_neg h]; rfl)
/-- a column put in at a place -/
def insc (c : Nat → Nat) (p j : Nat) : Nat → Nat := fun x => if x < p then c x else if x = p then j else c (x - 1)
theorem Dt_ins {n j : Nat} {c : Nat → Nat} {p : Nat} : ∀ m, p + m < n → Dt r n (insc c (p + m) j) = sg m * Dt r n (insc c p j)
  | 0, _ => by rw [show sg 0 = 1 from rfl, Int.one_mul]; rfl
  | m + 1, h => by
    have e := Dt_sw (r := r) (p + m) (insc c (p + m) j) (show p + m + 1 < n by omega)
    rw [Dt_ins m (by omega)] at e
    rw [sg_succ, show p + (m + 1) = (p + m) + 1 by omega]
    rw [Dt_congr (d := fun x => insc c (p + m) j (sw (p + m) x)) (fun x _ => by unfold insc sw; (repeat' split) <;> first | rfl | omega | (congr 1 <;> omega)), e]
    grind
theorem sg_two (m : Nat) : sg (m + m + 1) = -1 := by unfold sg; rw [if_neg (by omega)]
theorem sg_mul (a b : Nat) : sg a * sg b = sg (a + b) := by
  unfold sg
  (repeat' split) <;> first | rfl | omega
/-- the last row, spread -/
theorem Yk_last {k j : Nat} : Yk r (k + 1) k j = Gk r k (r k) j := by
  unfold Yk Gk
  rw [Dt, sumN, show upc id k j k = j by unfold upc; rw [if_pos rfl], show sg (k + k) = 1 by unfold sg; rw [if_pos (by omega)], Int.one_mul,
    Dt_congr (d := id) (fun x hx => by unfold upc skip; rw [if_pos hx, if_neg (by omega)])]
  rw [sumN_congr (g := fun q => -(r k q * Yk r k q j)) fun p hp => ?_]
  · rw [sumN_neg]
    show -(sumN k fun q => r k q * Yk r k q j) + r k j * dk r k = _
    rw [Int.mul_comm (r k j)]; unfold Yk; omega
  · rw [show upc id k j p = p by unfold upc; rw [if_neg (by omega)]; rfl]
    have e := Dt_ins (r := r) (n := k) (j := j) (c := fun x => skip p x) (p := p) (k - 1 - p) (by omega)
    rw [Dt_congr (c := fun x => upc id k j (skip p x)) (d := insc (fun x => skip p x) (p + (k - 1 - p)) j) (fun x hx => by
      unfold upc skip insc; (try dsimp only); (repeat' split) <;> first | rfl | omega | (congr 1 <;> omega)), e]
    rw [Dt_congr (c := insc (fun x => skip p x) p j) (d := upc id p j) (fun x hx => by
      unfold upc skip insc; dsimp only [id]; (repeat' split) <;> first | rfl | omega | (congr 1 <;> omega))]
    show sg (k + p) * r k p * (sg (k - 1 - p) * Yk r k p j) = _
    have h1 : sg (k + p) * sg (k - 1 - p) = -1 := by rw [sg_mul, show k + p + (k - 1 - p) = (k - 1) + (k - 1) + 1 by omega, sg_two]
    have : sg (k + p) * r k p * (sg (k - 1 - p) * Yk r k p j) = (sg (k + p) * sg (k - 1 - p)) * (r k p * Yk r k p j) := by grind
    rw [this, h1]; omega
end KL
end
section
namespace KL
variable {r : Nat → Nat → Int}
theorem Gk_add {k : Nat} (x y : Nat → Int) (j : Nat) : Gk r k (fun j => x j + y j) j = Gk r k x j + Gk r k y j := by
  unfold Gk
  rw [sumN_congr (g := fun q => x q * Yk r k q j + y q * Yk r k q j) fun q _ => by rw [Int.add_mul], sumN_add]
  grind
theorem Gk_mul {k : Nat} (a : Int) (x : Nat → Int) (j : Nat) : Gk r k (fun j => a * x j) j = a * Gk r k x j := by
  unfold Gk
  rw [sumN_congr (g := fun q => a * (x q * Yk r k q j)) fun q _ => by rw [Int.mul_assoc], sumN_mul]
  grind
theorem Gk_sum {k : Nat} (c : Nat → Int) (j : Nat) : ∀ n, Gk r k (fun j => sumN n fun t => c t * r t j) j = sumN n fun t => c t * Gk r k (r t) j
  | 0 => by
    unfold Gk
    rw [sumN_zero (fun q _ => by show sumN 0 _ * _ = 0; rw [sumN, Int.zero_mul])]
    show dk r k * 0 - 0 = 0
    omega
  | n + 1 => by
    rw [sumN, ← Gk_sum c j n, ← Gk_mul, ← Gk_add]
    rfl
theorem Gk_low {k : Nat} {x : Nat → Int} (h : ∀ q, q < k → x q = 0) (j : Nat) : Gk r k x j = dk r k * x j := by
  unfold Gk
  rw [sumN_zero fun q hq => by rw [h q hq, Int.zero_mul]]
  omega
theorem dk_zero : dk r 0 = 1 := rfl
theorem dk_succ (k : Nat) : dk r (k + 1) = Gk r k (r k) k := by rw [← Yk_last, Yk_self]
/-- all rows ahead are nought -/
def Rk (r : Nat → Nat → Int) (k : Nat) : Prop := ∀ t, t < k → ∀ j, Gk r k (r t) j = 0
theorem star {k q : Nat} (hd : dk r k ≠ 0) (hp : dk r (k + 1) ≠ 0) (R : Rk r k) (hq : q < k) (j : Nat) : dk r (k + 1) * Yk r k q j - Yk r k q k * Gk r k (r k) j = dk r k * Yk r (k + 1) q j := by
  have hs : InSpan r (k + 1) fun j => dk r (k + 1) * Yk r k q j + (- Yk r k q k) * Yk r (k + 1) k j + (- dk r k) * Yk r (k + 1) q j :=
    (((Yk_span hq).up.mul _).add ((Yk_span (by omega)).mul _)).add ((Yk_span (by omega)).mul _)
  obtain ⟨c, hc⟩ := hs
  have z0 : ∀ i, i < k + 1 → dk r (k + 1) * Yk r k q i + (- Yk r k q k) * Yk r (k + 1) k i + (- dk r k) * Yk r (k + 1) q i = 0 := fun i hi => by
    by_cases e : i = k
    · subst e
      rw [Yk_self, Yk_other (show q < i + 1 by omega) (by omega) (by omega)]
      grind
    · rw [Yk_other (show k < k + 1 by omega) hi e]
      by_cases e2 : i = q
      · subst e2
        rw [Yk_self, Yk_self]
        grind
      · rw [Yk_other hq (by omega) e2, Yk_other (by omega) hi e2]
        grind
  have g1 : ∀ j, Gk r k (fun j => dk r (k + 1) * Yk r k q j + (- Yk r k q k) * Yk r (k + 1) k j + (- dk r k) * Yk r (k + 1) q j) j = c k * Gk r k (r k) j := fun j => by
    have : (fun j => dk r (k + 1) * Yk r k q j + (- Yk r k q k) * Yk r (k + 1) k j + (- dk r k) * Yk r (k + 1) q j) = fun j => sumN (k + 1) fun t => c t * r t j := funext hc
    rw [this, Gk_sum, sumN, sumN_zero fun t ht => by rw [R t ht, Int.mul_zero], Int.zero_add]
  have g2 : ∀ j, dk r k * (dk r (k + 1) * Yk r k q j + (- Yk r k q k) * Yk r (k + 1) k j + (- dk r k) * Yk r (k + 1) q j) = c k * Gk r k (r k) j := fun j => by
    rw [← g1 j]
    exact (Gk_low (fun i hi => z0 i (by omega)) j).symm
  have ck : c k = 0 := by
    have e := g2 k
    rw [z0 k (by omega), Int.mul_zero, ← dk_succ] at e
    rcases Int.mul_eq_zero.mp e.symm with h | h
    · exact h
    · exact absurd h hp
  have e := g2 j
  rw [ck, Int.zero_mul] at e
  rcases Int.mul_eq_zero.mp e with h | h
  · exact absurd h hd
  · rw [← Yk_last]
    grind
theorem Gk_step {k : Nat} (hd : dk r k ≠ 0) (hp : dk r (k + 1) ≠ 0) (R : Rk r k) (x : Nat → Int) (j : Nat) : dk r (k + 1) * Gk r k x j - Gk r k x k * Gk r k (r k) j = dk r k * Gk r (k + 1) x j := by
  have e : dk r k * sumN k (fun q => x q * Yk r (k + 1) q j) = dk r (k + 1) * sumN k (fun q => x q * Yk r k q j) - Gk r k (r k) j * sumN k (fun q => x q * Yk r k q k) := by
    rw [← sumN_mul, ← sumN_mul, ← sumN_mul, Int.sub_eq_add_neg, ← sumN_neg, ← sumN_add]
    refine sumN_congr fun q hq => ?_
    have s := star hd hp R hq j
    grind
  have e1 : Gk r (k + 1) x j = dk r (k + 1) * x j - (sumN k (fun q => x q * Yk r (k + 1) q j) + x k * Gk r k (r k) j) := by
    rw [← Yk_last]; rfl
  have e2 : Gk r k x j = dk r k * x j - sumN k fun q => x q * Yk r k q j := rfl
  have e3 : Gk r k x k = dk r k * x k - sumN k fun q => x q * Yk r k q k := rfl
  rw [e1, e2, e3]
  grind
theorem Rk_all : ∀ k, (∀ m, m ≤ k → dk r m ≠ 0) → Rk r k
  | 0, _ => fun t h => by omega
  | k + 1, h => fun t ht j => by
    have R := Rk_all k fun m hm => h m (by omega)
    have e := Gk_step (h k (by omega)) (h (k + 1) (by omega)) R (r t) j
    have z : dk r k * Gk r (k + 1) (r t) j = 0 := by
      rw [← e]
      by_cases hk : t = k
      · subst hk
        rw [← dk_succ]; grind
      · rw [R t (by omega), R t (by omega)]; grind
    rcases Int.mul_eq_zero.mp z with h' | h'
    · exact absurd h' (h k (by omega))
    · exact h'
/-- the table behind k steps of elimination -/
def Tk (r : Nat → Nat → Int) (k i j : Nat) : Int := if i < k then Yk r k i j else Gk r k (r i) j
theorem Tk_zero (i j : Nat) : Tk r 0 i j = r i j := by
  unfold Tk
  rw [if_neg (by omega), Gk_low (fun q h => by omega)]
  show 1 * r i j = r i j
  omega
theorem Tk_pivot (k : Nat) : Tk r k k k = dk r (k + 1) := by unfold Tk; rw [if_neg (by omega), dk_succ]
theorem Tk_same (k j : Nat) : Tk r (k + 1) k j = Tk r k k j := by unfold Tk; rw [if_pos (by omega), if_neg (by omega), Yk_last]
theorem Tk_step {k i : Nat} (h : ∀ m, m ≤ k + 1 → dk r m ≠ 0) (hi : i ≠ k) (j : Nat) : Tk r k k k * Tk r k i j - Tk r k i k * Tk r k k j = dk r k * Tk r (k + 1) i j := by
  have R := Rk_all (r := r) k fun m hm => h m (by omega)
  rw [Tk_pivot]
  unfold Tk
  rw [if_neg (show ¬ k < k by omega)]
  by_cases lt : i < k
  · rw [if_pos lt, if_pos lt, if_pos (show i < k + 1 by omega)]
    exact star (h k (by omega)) (h (k + 1) (by omega)) R lt j
  · rw [if_neg lt, if_neg lt, if_neg (show ¬ i < k + 1 by omega)]
    exact Gk_step (h k (by omega)) (h (k + 1) (by omega)) R (r i) j
/-- solutions: the sum of x j * X j over j < n is D * x n -/
def Lf (n : Nat) (X : Nat → Int) (D : Int) (x : Nat → Int) : Int := sumN n (fun j => x j * X j) - D * x n
theorem Lf_add {n : Nat} {X : Nat → Int} {D : Int} (x y : Nat → Int) : Lf n X D (fun j => x j + y j) = Lf n X D x + Lf n X D y := by
  unfold Lf
  rw [sumN_congr (g := fun j => x j * X j + y j * X j) fun j _ => by rw [Int.add_mul], sumN_add]
  grind
theorem Lf_mul {n : Nat} {X : Nat → Int} {D a : Int} (x : Nat → Int) : Lf n X D (fun j => a * x j) = a * Lf n X D x := by
  unfold Lf
  rw [sumN_congr (g := fun j => a * (x j * X j)) fun j _ => by rw [Int.mul_assoc], sumN_mul]
  grind
theorem Lf_span {n m : Nat} {X : Nat → Int} {D : Int} (h : ∀ t, t < m → Lf n X D (r t) = 0) (c : Nat → Int) : ∀ m', m' ≤ m → Lf n X D (fun j => sumN m' fun t => c t * r t j) = 0
  | 0, _ => by
    unfold Lf
    rw [sumN_zero fun j _ => by show sumN 0 _ * _ = 0; rw [sumN, Int.zero_mul]]
    show 0 - D * 0 = 0
    omega
  | m' + 1, hm => by
    have : (fun j => sumN (m' + 1) fun t => c t * r t j) = fun j => (fun j => sumN m' fun t => c t * r t j) j + (fun j => c m' * r m' j) j := rfl
    rw [this, Lf_add, Lf_mul, Lf_span h c m' (by omega), h m' (by omega)]
    grind
theorem Lf_in {n m : Nat} {X : Nat → Int} {D : Int} {f : Nat → Int} (h : ∀ t, t < m → Lf n X D (r t) = 0) (s : InSpan r m f) : Lf n X D f = 0 := by
  obtain ⟨c, hc⟩ := s
  rw [show f = fun j => sumN m fun t => c t * r t j from funext hc]
  exact Lf_span h c m (Nat.le_refl _)
/-- there is but one solution -/
theorem one_sol {n : Nat} {X : Nat → Int} {D : Int} (h : ∀ t, t < n → Lf n X D (r t) = 0) {q : Nat} (hq : q < n) : dk r n * X q = D * Yk r n q n := by
  have e := Lf_in h (Yk_span (r := r) hq)
  unfold Lf at e
  rw [sumN_one hq (fun i hi ne => by rw [Yk_other hq hi ne, Int.zero_mul]), Yk_self] at e
  omega
/-- .. and elimination finds it -/
theorem the_sol {n : Nat} (h : ∀ m, m ≤ n → dk r m ≠ 0) {t : Nat} (ht : t < n) : Lf n (fun q => Yk r n q n) (dk r n) (r t) = 0 := by
  have e := Rk_all (r := r) n h t ht n
  unfold Gk at e
  unfold Lf
  dsimp only
  omega
/-! ### signs -/
/-- what stands beside the first n columns' own places is nought or below, what stands behind is nought or above -/
structure Sg (n : Nat) (T : Nat → Nat → Int) : Prop where
  off : ∀ i j, i < n → j < n → i ≠ j → T i j ≤ 0
  rhs : ∀ i j, i < n → n ≤ j → 0 ≤ T i j
theorem Sg_step {n k : Nat} (hk : k < n) (s : Sg n (Tk r k)) (h : ∀ m, m ≤ k + 1 → 0 < dk r m) : Sg n (Tk r (k + 1)) := by
  have hne : ∀ m, m ≤ k + 1 → dk r m ≠ 0 := fun m hm => by have := h m hm; omega
  have p0 : 0 < Tk r k k k := by rw [Tk_pivot]; exact h _ (Nat.le_refl _)
  have d0 := h k (by omega)
  constructor
  · intro i j hi hj ne
    by_cases e : i = k
    · subst e
      rw [Tk_same]
      exact s.off i j hi hj ne
    · have e1 := Tk_step hne e j
      have a1 : Tk r k i k ≤ 0 := s.off i k hi hk e
      refine Classical.byContradiction fun c => ?_
      have pos : 0 < dk r k * Tk r (k + 1) i j := Int.mul_pos d0 (by omega)
      rw [← e1] at pos
      by_cases ej : j = k
      · subst ej
        have : Tk r j j j * Tk r j i j - Tk r j i j * Tk r j j j = 0 := by grind
        omega
      · have a2 := s.off i j hi hj ne
        have a3 := s.off k j hk hj (fun x => ej x.symm)
        have b1 : Tk r k k k * Tk r k i j ≤ 0 := Int.mul_nonpos_of_nonneg_of_nonpos (by omega) a2
        have b2 : 0 ≤ Tk r k i k * Tk r k k j := Int.mul_nonneg_of_nonpos_of_nonpos a1 a3
        omega
  · intro i j hi hj
    by_cases e : i = k
    · subst e
      rw [Tk_same]
      exact s.rhs i j hi hj
    · have e1 := Tk_step hne e j
      have a1 : Tk r k i k ≤ 0 := s.off i k hi hk e
      have a2 := s.rhs i j hi hj
      have a3 := s.rhs k j hk hj
      have b1 : 0 ≤ Tk r k k k * Tk r k i j := Int.mul_nonneg (by omega) a2
      have b2 : Tk r k i k * Tk r k k j ≤ 0 := Int.mul_nonpos_of_nonpos_of_nonneg a1 a3
      refine Classical.byContradiction fun c => ?_
      have neg : dk r k * Tk r (k + 1) i j < 0 := Int.mul_neg_of_pos_of_neg d0 (by omega)
      rw [← e1] at neg
      omega
theorem Sg_all {n : Nat} (s : Sg n r) : ∀ k, k ≤ n → (∀ m, m ≤ k → 0 < dk r m) → Sg n (Tk r k)
  | 0, _, _ => ⟨fun i j hi hj ne => by rw [Tk_zero]; exact s.off i j hi hj ne, fun i j hi hj => by rw [Tk_zero]; exact s.rhs i j hi hj⟩
  | k + 1, hk, h => Sg_step (by omega) (Sg_all s k (by omega) fun m hm => h m (by omega)) h
/-- all pivots above nought: the sums are from nought on -/
theorem sol_nonneg {n : Nat} (s : Sg n r) (h : ∀ m, m ≤ n → 0 < dk r m) {q : Nat} (hq : q < n) : 0 ≤ Yk r n q n := by
  have := (Sg_all s n (Nat.le_refl _) h).rhs q n hq (Nat.le_refl _)
  unfold Tk at this
  rwa [if_pos hq] at this
theorem sumN_np {f : Nat → Int} : ∀ {n : Nat}, (∀ i, i < n → f i ≤ 0) → sumN n f ≤ 0 ∧ (sumN n f = 0 → ∀ i, i < n → f i = 0)
  | 0, _ => ⟨Int.le_refl _, fun _ i h => by omega⟩
  | n + 1, h => by
    obtain ⟨a, b⟩ := sumN_np (n := n) fun i hi => h i (by omega)
    have c := h n (by omega)
    rw [sumN]
    refine ⟨by omega, fun e i hi => ?_⟩
    by_cases q : i = n
    · subst q; omega
    · exact b (by omega) i (by omega)
/-- from every state one comes to an end -/
def Live (n : Nat) (r : Nat → Nat → Int) : Prop := ∀ U : Nat → Prop, (∃ k, k < n ∧ U k) → (∀ t, t < n → U t → ∀ j, j < n → ¬ U j → r t j = 0) → (∀ t, t < n → U t → r t n = 0) → False
theorem X_pos {n : Nat} (s : Sg n r) (lv : Live n r) {X : Nat → Int} {D : Int} (hD : 0 < D) (hX : ∀ q, q < n → 0 ≤ X q) (h : ∀ t, t < n → Lf n X D (r t) = 0) {k : Nat} (hk : k < n) : 0 < X k := by
  refine Classical.byContradiction fun c => ?_
  have key : ∀ t, t < n → X t = 0 → r t n = 0 ∧ ∀ j, j < n → r t j * X j = 0 := fun t ht e => by
    have np := sumN_np (n := n) (f := fun j => r t j * X j) fun j hj => by
      by_cases q : t = j
      · subst q; show r t t * X t ≤ 0; rw [e, Int.mul_zero]; exact Int.le_refl _
      · exact Int.mul_nonpos_of_nonpos_of_nonneg (s.off t j ht hj q) (hX j hj)
    have e2 : sumN n (fun j => r t j * X j) - D * r t n = 0 := h t ht
    have rn := s.rhs t n ht (Nat.le_refl _)
    have m0 : 0 ≤ D * r t n := Int.mul_nonneg (by omega) rn
    have z : D * r t n = 0 := by omega
    refine ⟨?_, np.2 (by omega)⟩
    rcases Int.mul_eq_zero.mp z with q | q
    · omega
    · exact q
  refine lv (fun t => X t = 0) ⟨k, hk, by have := hX k hk; omega⟩ (fun t ht e j hj ne => ?_) (fun t ht e => (key t ht e).1)
  rcases Int.mul_eq_zero.mp ((key t ht e).2 j hj) with q | q
  · exact q
  · exact absurd q ne
/-- where sums from nought on solve all, each pivot is above nought -/
theorem piv_pos {n : Nat} (s : Sg n r) (lv : Live n r) (hI : ∀ i t, i < n → t < n → r i (n + 1 + t) = if t = i then 1 else 0) {X : Nat → Int} {D : Int} (hD : 0 < D) (hX : ∀ q, q < n → 0 ≤ X q) (h : ∀ t, t < n → Lf n X D (r t) = 0) :
    ∀ k, k ≤ n → ∀ m, m ≤ k → 0 < dk r m
  | 0, _, m, hm => by rw [show m = 0 by omega, dk_zero]; decide
  | k + 1, hk, m, hm => by
    have ih := piv_pos s lv hI hD hX h k (by omega)
    by_cases hmk : m ≤ k
    · exact ih m hmk
    have em : m = k + 1 := by omega
    subst em
    have sg := Sg_all s k (by omega) ih
    have hkn : k < n := by omega
    have TY : ∀ j, Tk r k k j = Yk r (k + 1) k j := fun j => by unfold Tk; rw [if_neg (by omega), Yk_last]
    have sp := Yk_span (r := r) (show k < k + 1 by omega)
    have L := Lf_in (n := n) (X := X) (D := D) (fun t ht => h t (by omega)) sp
    have low : ∀ j, j < k → Tk r k k j = 0 := fun j hj => by rw [TY]; exact Yk_other (by omega) (by omega) (by omega)
    have Xk := X_pos s lv hD hX h hkn
    have L' : sumN n (fun j => Tk r k k j * X j) = D * Tk r k k n := by
      unfold Lf at L
      rw [sumN_congr (g := fun j => Tk r k k j * X j) (fun j _ => by rw [TY]), ← TY] at L
      omega
    have Tn := sg.rhs k n hkn (Nat.le_refl _)
    have Tn' : 0 ≤ D * Tk r k k n := Int.mul_nonneg (by omega) Tn
    rw [← Tk_pivot]
    refine Classical.byContradiction fun c => ?_
    have np := sumN_np (n := n) (f := fun j => Tk r k k j * X j) fun j hj => by
      by_cases q : k = j
      · subst q; exact Int.mul_nonpos_of_nonpos_of_nonneg (by omega) (by omega)
      · exact Int.mul_nonpos_of_nonpos_of_nonneg (sg.off k j hkn hj q) (hX j hj)
    have z0 := np.2 (by omega)
    have zj : ∀ j, j < n → Tk r k k j = 0 := fun j hj => by
      have Xj := X_pos s lv hD hX h hj
      rcases Int.mul_eq_zero.mp (z0 j hj) with q | q
      · exact q
      · omega
    have zn : Tk r k k n = 0 := by
      have : D * Tk r k k n = 0 := by
        rw [← L']
        exact sumN_zero z0
      rcases Int.mul_eq_zero.mp this with q | q
      · omega
      · exact q
    obtain ⟨cf, hc⟩ := sp
    have cI : ∀ t, t < k + 1 → Tk r k k (n + 1 + t) = cf t := fun t ht => by
      rw [TY, hc, sumN_one ht fun i hi ne => by rw [hI i t (by omega) (by omega), if_neg (fun e => ne e.symm), Int.mul_zero]]
      rw [hI t t (by omega) (by omega), if_pos rfl, Int.mul_one]
    have c0 : ∀ t, t < k + 1 → 0 ≤ cf t := fun t ht => by rw [← cI t ht]; exact sg.rhs k _ hkn (by omega)
    have ck : cf k = dk r k := by
      rw [← cI k (by omega)]
      unfold Tk Gk
      rw [if_neg (by omega), hI k k hkn hkn, if_pos rfl, sumN_zero fun q hq => ?_]
      · omega
      · obtain ⟨d, hd⟩ := Yk_span (r := r) hq
        rw [hd, sumN_zero fun i hi => by rw [hI i k (by omega) hkn, if_neg (by omega), Int.mul_zero], Int.mul_zero]
    have d0 := ih k (Nat.le_refl _)
    have col : ∀ j, Tk r k k j = 0 → (∀ t, t < k + 1 → 0 < cf t → r t j ≤ 0) → ∀ t, t < k + 1 → 0 < cf t → r t j = 0 := fun j hj hn t ht hp => by
      have e : sumN (k + 1) (fun t => cf t * r t j) = 0 := by rw [← hc, ← TY]; exact hj
      have := (sumN_np (n := k + 1) (f := fun t => cf t * r t j) fun i hi => by
        by_cases q : 0 < cf i
        · exact Int.mul_nonpos_of_nonneg_of_nonpos (by omega) (hn i hi q)
        · have := c0 i hi
          show cf i * r i j ≤ 0
          rw [show cf i = 0 by omega, Int.zero_mul]; exact Int.le_refl _).2 e t ht
      rcases Int.mul_eq_zero.mp this with q | q
      · omega
      · exact q
    refine lv (fun t => t < k + 1 ∧ 0 < cf t) ⟨k, hkn, by omega, by rw [ck]; exact d0⟩ (fun t ht u j hj nu => ?_) (fun t ht u => ?_)
    · exact col j (zj j hj) (fun i hi hp => s.off i j (by omega) hj fun e => nu (by subst e; exact ⟨hi, hp⟩)) t u.1 u.2
    · have e : sumN (k + 1) (fun t => - (cf t * r t n)) = 0 := by rw [sumN_neg, ← hc, ← TY, zn]; rfl
      have := (sumN_np (n := k + 1) (f := fun t => - (cf t * r t n)) fun i hi => by
        have := Int.mul_nonneg (c0 i hi) (s.rhs i n (by omega) (Nat.le_refl _))
        show - (cf i * r i n) ≤ 0
        omega).2 e t u.1
      have e3 : cf t * r t n = 0 := by
        have e4 : - (cf t * r t n) = 0 := this
        omega
      rcases Int.mul_eq_zero.mp e3 with q | q
      · have := u.2; omega
      · exact q
end KL
end
section
namespace KL
variable {r : Nat → Nat → Int}
theorem sumN_abs {f : Nat → Int} {b : Nat} : ∀ {n : Nat}, (∀ i, i < n → (f i).natAbs ≤ b) → (sumN n f).natAbs ≤ n * b
  | 0, _ => by rw [Nat.zero_mul]; exact Nat.le_refl _
  | n + 1, h => by
    have a := sumN_abs (n := n) fun i hi => h i (by omega)
    have c := h n (by omega)
    rw [sumN, Nat.succ_mul]
    omega
theorem sg_abs (m : Nat) : (sg m).natAbs = 1 := by unfold sg; split <;> rfl
theorem Dt_abs {B M N : Nat} (hB : ∀ i j, (r i j).natAbs ≤ B) (hM : N * B ≤ M) : ∀ {n : Nat} (c : Nat → Nat), n ≤ N → (Dt r n c).natAbs ≤ M ^ n
  | 0, _, _ => Nat.le_refl _
  | n + 1, c, h => by
    rw [Dt]
    refine Nat.le_trans (sumN_abs (b := B * M ^ n) fun p hp => ?_) ?_
    · rw [Int.natAbs_mul, Int.natAbs_mul, sg_abs, Nat.one_mul]
      exact Nat.mul_le_mul (hB _ _) (Dt_abs hB hM _ (by omega))
    · rw [← Nat.mul_assoc, Nat.pow_succ, Nat.mul_comm (M ^ n) M]
      refine Nat.mul_le_mul_right _ (Nat.le_trans (Nat.mul_le_mul_right _ h) hM)
theorem Gk_abs {B M N k : Nat} {x : Nat → Int} (hB : ∀ i j, (r i j).natAbs ≤ B) (hx : ∀ j, (x j).natAbs ≤ B) (hM : N * B ≤ M) (hk : k + 1 ≤ N) (j : Nat) : (Gk r k x j).natAbs ≤ M ^ (k + 1) := by
  have a : (dk r k * x j).natAbs ≤ M ^ k * B := by
    rw [Int.natAbs_mul]
    exact Nat.mul_le_mul (Dt_abs hB hM _ (by omega)) (hx j)
  have b : (sumN k fun q => x q * Yk r k q j).natAbs ≤ k * (M ^ k * B) := sumN_abs fun q hq => by
    rw [Int.natAbs_mul, Nat.mul_comm]
    exact Nat.mul_le_mul (Dt_abs hB hM _ (by omega)) (hx q)
  have e : M ^ k * B + k * (M ^ k * B) = (k + 1) * B * M ^ k := by rw [Nat.add_comm, ← Nat.succ_mul, Nat.mul_comm (M ^ k), ← Nat.mul_assoc]
  have f : (k + 1) * B * M ^ k ≤ M * M ^ k := Nat.mul_le_mul_right _ (Nat.le_trans (Nat.mul_le_mul_right _ hk) hM)
  rw [Nat.pow_succ, Nat.mul_comm (M ^ k) M]
  unfold Gk
  omega
theorem Tk_abs {B M N k i : Nat} (hB : ∀ i j, (r i j).natAbs ≤ B) (hM : N * B ≤ M) (hk : k + 1 ≤ N) (h1 : 1 ≤ M) (j : Nat) : (Tk r k i j).natAbs ≤ M ^ (k + 1) := by
  unfold Tk
  split
  · exact Nat.le_trans (Dt_abs hB hM _ (by omega)) (Nat.pow_le_pow_right h1 (by omega))
  · exact Gk_abs hB (hB i) hM hk j
end KL
end
section
set_option maxHeartbeats 1000000
namespace KL
open PySem PySem.Spec PyProof.Rows L2
abbrev sc_solvedN : List Str := ["table", "last", "states", "at", "chosen", "k", "row"]
abbrev s_solved : Stmt := topS 37
theorem sc_solved : FnScope ["table", "last", "states", "at", "chosen", "k", "row"] ["table"] (defScope s_solved) := ⟨rfl, rfl, rfl, by decide +kernel, rfl, by decide +kernel, by decide +kernel⟩
abbrev frT (a b : Int) : Th := .tup [.int (lowT a b), .int (b / ((Nat.gcd a.natAbs b.natAbs : Nat) : Int))]
def refs (ads : Nat → Addr) (n : Nat) : List V := (List.range n).map fun i => V.ref (ads i)
theorem refs_len (ads : Nat → Addr) (n : Nat) : (refs ads n).length = n := by unfold refs; rw [List.length_map, List.length_range]
theorem refs_get {ads : Nat → Addr} {n i : Nat} (h : i < n) : (refs ads n)[i]? = some (.ref (ads i)) := by unfold refs; rw [List.getElem?_map, List.getElem?_range h]; rfl
theorem refs_of {ads : Nat → Addr} {n i : Nat} {v : V} (h : (refs ads n)[i]? = some v) : i < n ∧ v = .ref (ads i) := by
  have hj : i < n := by have := (List.getElem?_eq_some_iff.mp h).1; rwa [refs_len] at this
  rw [refs_get hj] at h
  exact ⟨hj, (Option.some.inj h).symm⟩
theorem refs_succ (ads : Nat → Addr) (n : Nat) (a : Addr) : refs (fun i => if i = n then a else ads i) (n + 1) = refs ads n ++ [.ref a] := by
  unfold refs
  rw [List.range_succ, List.map_append]
  congr 1
  · exact List.map_congr_left fun i m => by dsimp only; rw [if_neg (by have := List.mem_range.mp m; omega)]
  · show [V.ref (if n = n then a else ads n)] = _
    rw [if_pos rfl]
def spSolved : Sp := fun vs H Q _ => ∃ (T : Addr) (ads : Nat → Addr) (r : Nat → Nat → Int) (n : Nat), vs = [.ref T] ∧ H T = some (.lst (refs ads n)) ∧ (∀ i, i < n → H (ads i) = some (.lst (rowV (r i) (n + 1)))) ∧ 1 ≤ n ∧ n ≤ 30 ∧ (∀ i j, (r i j).natAbs ≤ 2 ^ 64) ∧
  ((∀ m, m ≤ n → 0 < dk r m) → ∀ v H', Same H H' → At (Trk H) H' (.tup ((List.range n).map fun i => frT (Yk r n i n) (dk r n))) v → Q v H') ∧ ((∃ m, m ≤ n ∧ dk r m ≤ 0) → ∀ H', Same H H' → Q .non H')
theorem pow_small {k : Nat} (h : k ≤ 31) : (31 * 2 ^ 64) ^ k < 2 ^ 4000 := Nat.lt_of_le_of_lt (Nat.pow_le_pow_right (by decide) h) (by decide +kernel)
theorem tk_small {r : Nat → Nat → Int} {k i : Nat} (hB : ∀ i j, (r i j).natAbs ≤ 2 ^ 64) (hk : k ≤ 30) (j : Nat) : (Tk r k i j).natAbs < 2 ^ 4000 :=
  Nat.lt_of_le_of_lt (Tk_abs (N := 31) (M := 31 * 2 ^ 64) hB (Nat.le_refl _) (by omega) (by decide) j) (pow_small (by omega))
theorem dk_small {r : Nat → Nat → Int} {k : Nat} (hB : ∀ i j, (r i j).natAbs ≤ 2 ^ 64) (hk : k ≤ 31) : (dk r k).natAbs < 2 ^ 4000 :=
  Nat.lt_of_le_of_lt (Dt_abs (N := 31) (M := 31 * 2 ^ 64) hB (Nat.le_refl _) _ hk) (pow_small hk)
section
variable {P : Program} {w : World} {K : PySem.W.Frag} {mg : Str → Option Value} {base : Heap} {k : Nat} {t1 t2 t3 : Tok}
theorem ok_solved (Z : Zs mg) (c_lowest : Cal P w K mg base CX0 k "lowest" ["top", "bottom"] spLowest) (c_cleared : Cal P w K mg base CX0 k "cleared" ["row", "chosen", "at", "last"] spCleared) (d : Def K mg "solved" s_solved ["table"]) : Cal P w K mg base CX0 (k + 1) "solved" ["table"] spSolved := by
  refine d.ok sc_solved (fun vs H Q E h => ?_) (fun f cdv A outer s H vs Q E hr h => ?_)
  · obtain ⟨_, _, _, _, rfl, _⟩ := h; rfl
  obtain ⟨T, ads, r, n, rfl, eT, eA, n1, n30, hB, q1, q0⟩ := h
  refine ⟨_, (pss_cons (ps_set (i := 1) sc_solved.nd rfl (Or.inr rfl) pe_int)
      (pss_cons (ps_set (i := 2) sc_solved.nd rfl (Or.inl rfl) (pe_callB (id := "len") call_len_seq (by rfl) Z.len (by decide +kernel) (pa_cons (pv 0) pa_nil)))
      (pss_cons (ps_for PassesOwn.never rfl (pi_range1 (by rfl) Z.range (pa_cons (pv 2) pa_nil)) (pg_name (i := 3) sc_solved.nd rfl (Or.inr rfl)) (pss_cons (ps_set (i := 4) sc_solved.nd rfl (Or.inr rfl) (pe_ix ix_list (pv 0) (pv 3) (fun _ _ => rfl)))
      (pss_cons (ps_if (pt_cmpR op_le (pe_ix ix_list (pv 4) (pv 3) (fun _ _ => rfl)) pe_int (nomark _)) (pss_one (ps_ret pe_non)) pss_nil)
      (pss_cons (ps_setLc (i := 0) (own := [("k", 5), ("row", 6)]) (g := (gTup K 2 (gCons (gName 5) (gCons (gName 6) gNil)))) (tt := tYes) rfl sc_solved.nd rfl rfl (sw_true rfl rfl rfl (by decide +kernel)) (pi_enum (by rfl) Z.enumerate (pa_cons (pv 0) pa_nil)) (blkOk_by (N := ["table", "last", "states", "at", "chosen", "k", "row"]) (sc := defScope s_solved) (by decide +kernel)) (fun _ _ _ _ _ => (pg_tup (by rfl) (pgs_cons (pg_name (i := 5) sc_solved.nd rfl (Or.inl rfl)) (pgs_cons (pg_name (i := 6) sc_solved.nd rfl (Or.inl rfl)) pgs_nil)))) (fun _ _ _ _ _ => pts_nil) (fun _ _ _ _ _ => (pe_ifExp (pt_cmpR op_eq (pv 5) (pv 3) (nomark _)) (pv 6) (pe_cal c_cleared hr (by rfl) (pa_cons (pv 6) (pa_cons (pv 4) (pa_cons (pv 3) (pa_cons (pv 1) pa_nil))))))))
      (pss_one (ps_set (i := 1) sc_solved.nd rfl (Or.inr rfl) (pe_ix ix_list (pv 4) (pv 3) (fun _ _ => rfl))))))))
      (pss_one (ps_ret (pe_callTy (T := "tuple") call_tuple_of (by rfl) Z.tuple (by decide +kernel) (pa_cons (pe_lc (own := [("row", 6)]) (g := gName 6) (tt := tYes) rfl sc_solved.nd (pi_list (pv 0)) (blkOk_by (N := ["table", "last", "states", "at", "chosen", "k", "row"]) (sc := defScope s_solved) (by decide +kernel)) (fun _ _ _ _ _ => (pg_name (i := 6) sc_solved.nd rfl (Or.inl rfl))) (fun _ _ _ _ _ => pts_nil) (fun _ _ _ _ _ => (pe_cal c_lowest hr (by rfl) (pa_cons (pe_ix (r := rIxL K) ix_list (pv 6) (pe_un un_neg pe_int) (fun _ _ => rfl)) (pa_cons (pv 1) pa_nil))))) pa_nil))))))), ?_⟩
  refine ⟨_, rfl, T, _, rfl, .inl (.of eT), ?_⟩
  rw [refs_len]
  refine ⟨_, rfl, _, rfl, by omega, by omega, ?_⟩
  rw [Int.toNat_natCast]
  refine for_range (lo := 0) (n := n) (fun c σ' H' => Same H H' ∧ (∀ m, m ≤ c → 0 < dk r m) ∧ ∃ (T' : Addr) (ads' : Nat → Addr) (y3 y4 y5 y6 : Option V), σ' = [some (.ref T'), some (.int (dk r c)), some (.int (n : Nat)), y3, y4, y5, y6] ∧ H' T' = some (.lst (refs ads' n)) ∧ ∀ i, i < n → H' (ads' i) = some (.lst (rowV (Tk r c i) (n + 1))))
    ⟨Same.refl _, fun m hm => by rw [show m = 0 by omega, dk_zero]; decide, T, ads, none, none, none, none, rfl, eT, fun i hi => by rw [eA i hi]; congr 2; exact rowV_congr fun j _ => (Tk_zero i j).symm⟩ (fun c σ' H' hc p' => ?_) (fun σ' H' p' => ?_)
  · obtain ⟨s', hp, T', ads', y3, y4, y5, y6, rfl, eT', eA'⟩ := p'
    refine ⟨_, rfl, _, rfl, T', _, _, _, rfl, rfl, .inl (.of eT'), (by rw [Int.zero_add]; exact atI_nat (refs_get hc)), ?_⟩
    have eC := eA' c hc
    have g1 : atI (rowV (Tk r c c) (n + 1)) (0 + (c : Int)) = some (.int (Tk r c c c)) := by rw [Int.zero_add]; exact atI_nat (rowV_get (by omega))
    refine ⟨_, rfl, _, rfl, ads' c, _, _, _, rfl, rfl, .inl (.of eC), g1, _, _, rfl, rfl, _, rfl, iteB (fun e1 => ?_) (fun e1 => ?_)⟩
    · have le := of_decide_eq_true e1
      rw [Tk_pivot] at le
      exact q0 ⟨c + 1, by omega, le⟩ H' s'
    have gt := of_decide_eq_false e1
    rw [Tk_pivot] at gt
    have hp' : ∀ m, m ≤ c + 1 → 0 < dk r m := fun m hm => by
      by_cases e : m = c + 1
      · subst e; omega
      · exact hp m (by omega)
    have hne : ∀ m, m ≤ c + 1 → dk r m ≠ 0 := fun m hm => by have := hp' m hm; omega
    have d0 := hp c (Nat.le_refl _)
    refine ⟨_, rfl, T', _, rfl, .inl (.of eT'), fun D hD => lc_it walk_enum (fun j G => Same H' G ∧ ∃ ads2 : Nat → Addr, G D = some (.lst (refs ads2 j)) ∧ ∀ i, i < j → ads2 i ≠ D ∧ G (ads2 i) = some (.lst (rowV (Tk r (c + 1) i) (n + 1)))) ⟨same_new hD _, ads', upd_same, fun i hi => by omega⟩ (fun j G _ p2 => .inl (.of (p2.1 _ _ eT'))) (fun j x G G' hj p2 y => ?_) (fun G p2 => ?_)⟩
    · obtain ⟨sG, ads2, eD, e2⟩ := p2
      obtain ⟨Tt, k1, k2, rfl, nT, rfl, g2, g3⟩ := y
      cases g2
      obtain ⟨hjn, rfl⟩ := refs_of g3
      have yT := same_new nT (.tup [V.int (j : Nat), V.ref (ads' j)])
      have sT := sG.trans yT
      have eD' := yT _ _ eD
      have eJ := sT _ _ (eA' j hjn)
      have eC' := sT _ _ eC
      have e2' : ∀ i, i < j → ads2 i ≠ D ∧ (upd G Tt (.tup [V.int (j : Nat), V.ref (ads' j)])) (ads2 i) = some (.lst (rowV (Tk r (c + 1) i) (n + 1))) := fun i hi => ⟨(e2 i hi).1, yT _ _ (e2 i hi).2⟩
      refine ⟨Tt, _, rfl, .of upd_same, rfl, _, _, rfl, _, _, rfl, rfl, rfl, ?_⟩
      generalize upd G Tt (.tup [V.int (j : Nat), V.ref (ads' j)]) = G1 at *
      have fin : ∀ (a : Addr) (G2 : Hp), Same G1 G2 → a ≠ D → G2 a = some (.lst (rowV (Tk r (c + 1) j) (n + 1))) → ∃ acc, G2 D = some (.lst acc) ∧ acc.length < sizeLine ∧ Same H' (upd G2 D (.lst (acc ++ [.ref a]))) ∧ ∃ ads2 : Nat → Addr, (upd G2 D (.lst (acc ++ [.ref a]))) D = some (.lst (refs ads2 (j + 1))) ∧ ∀ i, i < j + 1 → ads2 i ≠ D ∧ (upd G2 D (.lst (acc ++ [.ref a]))) (ads2 i) = some (.lst (rowV (Tk r (c + 1) i) (n + 1))) := fun a G2 s2 na ea => by
        refine ⟨_, s2 _ _ eD', by rw [refs_len, sizeLine_eq]; omega, Same.upd_new (sT.trans s2) hD _, fun i => if i = j then a else ads2 i, by rw [upd_same, refs_succ], fun i hi => ?_⟩
        by_cases e : i = j
        · subst e
          dsimp only
          rw [if_pos rfl]
          exact ⟨na, by rw [upd_ne na]; exact ea⟩
        · dsimp only
          rw [if_neg e]
          obtain ⟨h1, h2⟩ := e2' i (by omega)
          exact ⟨h1, by rw [upd_ne h1]; exact s2 _ _ h2⟩
      refine ⟨_, rfl, _, rfl, rfl, _, rfl, iteB (fun e3 => ?_) (fun e3 => ?_)⟩
      · have ej : j = c := by have := decI (A := True) e3; omega
        subst ej
        refine ⟨_, rfl, fin (ads' j) G1 (Same.refl _) (fun h => by have e9 := eA' j hjn; rw [h, hD] at e9; cases e9) ?_⟩
        rw [eJ]
        congr 2
        exact rowV_congr fun i _ => (Tk_same j i).symm
      · have ej : j ≠ c := fun h => by have := decI0 e3; omega
        refine ⟨_, rfl, _, rfl, _, rfl, _, rfl, ads' j, ads' c, Tk r c j, Tk r c c, n + 1, c, dk r c, (by rw [Int.zero_add]; rfl), eJ, eC', by omega, by omega, d0, dk_small hB (by omega), fun i _ => tk_small hB (by omega) i, fun i _ => tk_small hB (by omega) i, fun N G2 s2 nN eN => ?_⟩
        refine fin N G2 s2 (fun h => by rw [h, eD'] at nN; cases nN) ?_
        rw [eN]
        congr 2
        exact rowV_congr fun i _ => by rw [Tk_step hne ej i, Int.mul_ediv_cancel_left _ (by omega)]
    · obtain ⟨sG, ads2, eD, e2⟩ := p2
      have g1' : atI (rowV (Tk r c c) (n + 1)) (0 + (c : Int)) = some (.int (dk r (c + 1))) := by rw [g1, Tk_pivot]
      rw [refs_len] at eD e2
      exact ⟨_, rfl, _, rfl, ads' c, _, _, _, rfl, rfl, .inl (.of (sG _ _ eC)), g1', s'.trans sG, hp', D, ads2, _, _, _, _, rfl, eD, fun i hi => (e2 i hi).2⟩
  · obtain ⟨s', hp, T', ads', y3, y4, y5, y6, rfl, eT', eA'⟩ := p'
    refine ⟨_, rfl, T', rfl, ⟨_, .of eT'⟩, lc_newZ (Z := Trk H) (f := fun j => frT (Yk r n j n) (dk r n)) walk_list (fun _ _ _ _ h => h) (fun G sG => .of (sG _ _ eT')) (by rw [refs_len]; omega) (fun _ => rfl) (fun D nD j x G hj ex sG tD R hR => ?_) (fun D G vs sG nD eD aD => ?_)⟩
    · obtain ⟨hjn, rfl⟩ := refs_of ex
      have hl : atI (rowV (Tk r n j) (n + 1)) (-1) = some (.int (Tk r n j n)) := by rw [rowV_succ]; exact atI_last _ _
      have eY : Tk r n j n = Yk r n j n := by unfold Tk; rw [if_pos hjn]
      rw [eY] at hl
      refine ⟨_, rfl, 1, rfl, ads' j, _, _, _, rfl, rfl, .inl (.of (sG _ _ (eA' j hjn))), hl, _, rfl, _, _, rfl, hp n (Nat.le_refl _), dk_small hB (by omega), fun p G2 s2 np e2 => hR _ G2 s2 ⟨p, _, rfl, fun h => ?_, e2, .cons rfl (.cons rfl .nil)⟩⟩
      rcases h with rfl | h
      · exact tD np
      · exact Trk.same (s'.trans sG) h np
    · rw [refs_len] at aD
      refine ⟨D, vs, rfl, .inl ⟨.of eD, fun p4 n4 => ?_⟩⟩
      have y4 := same_new n4 (.tup vs)
      exact q1 hp _ _ (s'.trans (sG.trans y4)) ⟨p4, vs, rfl, fun h => Trk.not n4 (Trk.same (s'.trans sG) h), upd_same, (aD.less fun a h => .inr h).same y4⟩
end
end KL
end
section
set_option maxHeartbeats 1000000
namespace KL
open PySem PySem.Spec PyProof.Rows L2
abbrev sc_worthsN : List Str := ["machine", "rows", "state"]
abbrev s_worths : Stmt := topS 32
theorem sc_worths : FnScope ["machine", "rows", "state"] ["machine"] (defScope s_worths) := ⟨rfl, rfl, rfl, by decide +kernel, rfl, by decide +kernel, by decide +kernel⟩
abbrev sc_totalN : List Str := ["machine", "told"]
abbrev s_total : Stmt := topS 31
theorem sc_total : FnScope ["machine", "told"] ["machine"] (defScope s_total) := ⟨rfl, rfl, rfl, by decide +kernel, rfl, by decide +kernel, by decide +kernel⟩
abbrev sc_keptN : List Str := ["machine", "told"]
abbrev s_kept : Stmt := topS 33
theorem sc_kept : FnScope ["machine", "told"] ["machine"] (defScope s_kept) := ⟨rfl, rfl, rfl, by decide +kernel, rfl, by decide +kernel, by decide +kernel⟩
theorem sum_abs {f : Th → Int} {b : Nat} : ∀ (ss : List Th), (∀ st ∈ ss, (f st).natAbs ≤ b) → ((ss.map f).sum).natAbs ≤ ss.length * b
  | [], _ => Nat.zero_le _
  | st :: ss, h => by
    have a := sum_abs ss fun x m => h x (List.mem_cons_of_mem _ m)
    have c := h st List.mem_cons_self
    rw [List.map_cons, List.sum_cons, List.length_cons, Nat.succ_mul]
    omega
theorem pow60 {m : Int} (h : 0 ≤ m) : ((2 : Int) ^ (60 - m).toNat).natAbs ≤ 2 ^ 60 := by
  rw [Int.natAbs_pow]
  exact Nat.pow_le_pow_right (by decide) (by omega)
theorem shT_abs {n : Int} {st : Th} (h : StepIs n st) (j : Nat) : (shT j st).natAbs ≤ 2 ^ 60 := by
  rcases h with rfl | ⟨m, s, rfl, m0, _⟩
  · exact Nat.zero_le _
  · show (if s = (j : Int) then (2 : Int) ^ (60 - m).toNat else 0).natAbs ≤ 2 ^ 60
    split
    · exact pow60 m0
    · exact Nat.zero_le _
theorem eqr_abs {z : Int} {rows : List Th} (ok : MOk z rows) (i j : Nat) : (eqr rows i j).natAbs ≤ 2 ^ 64 := by
  have z8 := ok.z8
  by_cases hi : i < rows.length
  · obtain ⟨e, ss, er, h1, h2, h3⟩ := ok.row hi
    have hs : (shS ss j).natAbs ≤ 8 * 2 ^ 60 := Nat.le_trans (sum_abs ss fun st m => shT_abs (h3 st m) j) (Nat.mul_le_mul_right _ (by omega))
    have he : (shE e).natAbs ≤ 2 ^ 60 := by
      rcases h1 with rfl | ⟨i0, rfl, i1, _⟩
      · exact Nat.zero_le _
      · exact pow60 (by omega)
    unfold eqr
    rw [er]
    show (if j < rows.length then (if j = i then 2 ^ 60 else 0) - shS ss j else if j = rows.length then shE e else if j = rows.length + 1 + i then 1 else 0).natAbs ≤ 2 ^ 64
    split
    · split <;> omega
    · split
      · omega
      · split <;> decide
  · unfold eqr
    rw [List.getElem?_eq_none (by omega)]
    show (if j < rows.length then (if j = i then 2 ^ 60 else 0) - 0 else if j = rows.length then 0 else if j = rows.length + 1 + i then 1 else 0 : Int).natAbs ≤ 2 ^ 64
    split
    · split <;> decide
    · split
      · decide
      · split <;> decide
/-- all pivots are above nought -/
def PosR (rows : List Th) : Prop := ∀ m, m ≤ rows.length → 0 < dk (eqr rows) m
theorem not_Pos {rows : List Th} (h : ¬ PosR rows) : ∃ m, m ≤ rows.length ∧ dk (eqr rows) m ≤ 0 := by
  refine Classical.byContradiction fun c => h fun m hm => ?_
  refine Classical.byContradiction fun c2 => c ⟨m, hm, by omega⟩
/-- the worths told -/
def wosT (rows : List Th) : Th := .tup ((List.range rows.length).map fun i => frT (Yk (eqr rows) rows.length i rows.length) (dk (eqr rows) rows.length))
def spWorths (CM : Addr) : Sp := fun vs H Q E => ∃ (Z : Zone) (u : V) (e : Th), vs = [u] ∧ At Z H e u ∧ shortT e = true ∧
  (∀ z rows, e = .tup [.int z, .tup rows] → MOk z rows → (PosR (trimL z rows) → ∀ v H', Same H H' → At (Trk H) H' (wosT (trimL z rows)) v → Q v H') ∧ (¬ PosR (trimL z rows) → ∀ H', Same H H' → Q .non H')) ∧ (machB e = false → ∀ H', Same H H' → E (.ref CM) none H')
def topT (rows : List Th) : Int := lowT (Yk (eqr rows) rows.length 0 rows.length) (dk (eqr rows) rows.length)
def botT (rows : List Th) : Int := dk (eqr rows) rows.length / ((Nat.gcd (Yk (eqr rows) rows.length 0 rows.length).natAbs (dk (eqr rows) rows.length).natAbs : Nat) : Int)
def spTotal (CM : Addr) : Sp := fun vs H Q E => ∃ (Z : Zone) (u : V) (e : Th), vs = [u] ∧ At Z H e u ∧ shortT e = true ∧
  (∀ z rows, e = .tup [.int z, .tup rows] → MOk z rows → (PosR (trimL z rows) → ∀ v H', Same H H' → At (Trk H) H' (.tup [.int (topT (trimL z rows)), .int (botT (trimL z rows))]) v → Q v H') ∧ (¬ PosR (trimL z rows) → ∀ H', Same H H' → Q .non H')) ∧ (machB e = false → ∀ H', Same H H' → E (.ref CM) none H')
def spKeptM (CM : Addr) : Sp := fun vs H Q E => ∃ (Z : Zone) (u : V) (e : Th), vs = [u] ∧ At Z H e u ∧ shortT e = true ∧
  (∀ z rows, e = .tup [.int z, .tup rows] → MOk z rows → ∀ H', Same H H' → (PosR (trimL z rows) → Q (.bl (decide (topT (trimL z rows) ≤ botT (trimL z rows)))) H') ∧ (¬ PosR (trimL z rows) → Q (.bl false) H')) ∧ (machB e = false → ∀ H', Same H H' → E (.ref CM) none H')
section
variable {P : Program} {w : World} {K : PySem.W.Frag} {mg : Str → Option Value} {base : Heap} {k : Nat} {t1 t2 t3 : Tok}
theorem ok_worths {CM : Addr} (Z : Zs mg) (c_trimmed : Cal P w K mg base (L2.CX P w) k "trimmed" ["machine"] (spTrimmed CM)) (c_equation : Cal P w K mg base CX0 k "equation" ["rows", "state"] spEqn) (c_solved : Cal P w K mg base CX0 k "solved" ["table"] spSolved) (d : Def K mg "worths" s_worths ["machine"]) : Cal P w K mg base (L2.CX P w) (k + 1) "worths" ["machine"] (spWorths CM) := by
  refine d.okX sc_worths (fun vs H Q E h => ?_) (fun f cdv A outer s H vs Q E hr h => ?_)
  · obtain ⟨_, _, _, rfl, _⟩ := h; rfl
  obtain ⟨Zn, u, e, rfl, hu, se, qr, qm⟩ := h
  refine ⟨_, (pss_cons (ps_set (i := 1) sc_worths.nd rfl (Or.inr rfl) (pe_ix ix_tup (pe_calE (E := E) c_trimmed hr (by rfl) (takes_of rfl rfl rfl rfl) (pa_cons (pv 0) pa_nil)) pe_int (fun _ _ => rfl)))
      (pss_one (ps_ret (pe_cal c_solved hr (by rfl) (pa_cons (pe_lc (own := [("state", 2)]) (g := gName 2) (tt := tYes) rfl sc_worths.nd (pi_range1 (by rfl) Z.range (pa_cons (pe_callB (id := "len") call_len_seq (by rfl) Z.len (by decide +kernel) (pa_cons (pv 1) pa_nil)) pa_nil)) (blkOk_by (N := ["machine", "rows", "state"]) (sc := defScope s_worths) (by decide +kernel)) (fun _ _ _ _ _ => (pg_name (i := 2) sc_worths.nd rfl (Or.inl rfl))) (fun _ _ _ _ _ => pts_nil) (fun _ _ _ _ _ => (pe_cal c_equation hr (by rfl) (pa_cons (pv 1) (pa_cons (pv 2) pa_nil))))) pa_nil))))), ?_⟩
  refine ⟨_, rfl, Zn, u, e, rfl, hu, se, fun z rows e1 ok v H1 s1 a1 => ?_, fun mb H1 s1 => qm mb H1 s1⟩
  subst e1
  obtain ⟨q1, q0⟩ := qr z rows rfl ok
  have okT := trimL_ok ok
  have n1 := okT.n1
  have n30 := okT.n30
  have eB := eqr_abs okT
  obtain ⟨p, pr, us, rfl, ep, epr, ar, _⟩ := At.mach (show At (Trk H) H1 (.tup [.int z, .tup (trimL z rows)]) v from a1)
  generalize trimL z rows = TL at *
  have lu := ar.len
  refine ⟨p, _, 1, .ref pr, rfl, rfl, .of ep, rfl, ?_⟩
  refine ⟨_, rfl, pr, us, rfl, .inr (.of epr), _, rfl, by omega, by omega, ?_⟩
  rw [lu, Int.toNat_natCast]
  refine fun D hD => lc_it (walk_range (lo := 0) (n := TL.length)) (fun j G => Same H1 G ∧ ∃ ads : Nat → Addr, G D = some (.lst (refs ads j)) ∧ ∀ i, i < j → ads i ≠ D ∧ G (ads i) = some (.lst (rowV (eqr TL i) (TL.length + 1)))) ⟨same_new hD _, fun _ => D, upd_same, fun i hi => by omega⟩ (fun _ _ _ _ => trivial) (fun j x G G' hj p2 y => ?_) (fun G p2 => ?_)
  · obtain ⟨sG, ads, eD, eA⟩ := p2
    obtain ⟨rfl, rfl⟩ := y
    refine ⟨rfl, _, rfl, _, rfl, Trk H, pr, us, z, TL, j, (by dsimp only; rw [Int.zero_add]; rfl), sG _ _ epr, ar.same sG, okT, hj, fun N G2 s2 nN eN => ?_⟩
    have nD : N ≠ D := fun h => by rw [h, eD] at nN; cases nN
    refine ⟨_, s2 _ _ eD, by rw [refs_len, sizeLine_eq]; omega, Same.upd_new (sG.trans s2) hD _, fun i => if i = j then N else ads i, by rw [upd_same, refs_succ], fun i hi => ?_⟩
    by_cases e : i = j
    · subst e
      dsimp only
      rw [if_pos rfl]
      exact ⟨nD, by rw [upd_ne nD]; exact eN⟩
    · dsimp only
      rw [if_neg e]
      obtain ⟨h1, h2⟩ := eA i (by omega)
      exact ⟨h1, by rw [upd_ne h1]; exact s2 _ _ h2⟩
  · obtain ⟨sG, ads, eD, eA⟩ := p2
    have s0 := s1.trans sG
    exact ⟨D, ads, eqr TL, TL.length, rfl, eD, fun i hi => (eA i hi).2, n1, n30, eB, fun hp v H' s' a' => q1 hp v H' (s0.trans s') (a'.less fun a t => Trk.same s0 t), fun ⟨m, hm, h0⟩ H' s' => q0 (fun hp => by have := hp m hm; omega) H' (s0.trans s')⟩
theorem ok_total {CM : Addr} (c_worths : Cal P w K mg base (L2.CX P w) k "worths" ["machine"] (spWorths CM)) (d : Def K mg "total" s_total ["machine"]) : Cal P w K mg base (L2.CX P w) (k + 1) "total" ["machine"] (spTotal CM) := by
  refine d.okX sc_total (fun vs H Q E h => ?_) (fun f cdv A outer s H vs Q E hr h => ?_)
  · obtain ⟨_, _, _, rfl, _⟩ := h; rfl
  obtain ⟨Zn, u, e, rfl, hu, se, qr, qm⟩ := h
  refine ⟨_, (pss_cons (ps_set (i := 1) sc_total.nd rfl (Or.inl rfl) (pe_calE (E := E) c_worths hr (by rfl) (takes_of rfl rfl rfl rfl) (pa_cons (pv 0) pa_nil)))
      (pss_one (ps_ret (pe_ifExp (pt_cmpR op_isN (pv 1) pe_non (nomark _)) pe_non (pe_ix ix_tup (pv 1) pe_int (fun _ _ => rfl)))))), ?_⟩
  refine ⟨_, rfl, Zn, u, e, rfl, hu, se, fun z rows e1 ok => ⟨fun hp v H1 s1 a1 => ?_, fun hp H1 s1 => ?_⟩, fun mb H1 s1 => qm mb H1 s1⟩
  · obtain ⟨q1, q0⟩ := qr z rows e1 ok
    have n1 := (trimL_ok ok).n1
    obtain ⟨p, vs, rfl, np, ep, av⟩ := id (show At (Trk H) H1 (wosT (trimL z rows)) v from a1)
    obtain ⟨v0, ev0, h0⟩ := av.at (i := 0) (d := frT (Yk (eqr (trimL z rows)) (trimL z rows).length 0 (trimL z rows).length) (dk (eqr (trimL z rows)) (trimL z rows).length)) (by rw [List.getElem?_map, List.getElem?_range (by omega)]; rfl)
    exact ⟨_, rfl, rfl, _, rfl, iteF ⟨_, rfl, p, _, 0, v0, rfl, rfl, .of ep, atI_nat ev0, q1 hp v0 H1 s1 h0⟩⟩
  · obtain ⟨q1, q0⟩ := qr z rows e1 ok
    exact ⟨_, rfl, rfl, _, rfl, iteT (q0 hp H1 s1)⟩
theorem ok_kept {CM : Addr} (c_total : Cal P w K mg base (L2.CX P w) k "total" ["machine"] (spTotal CM)) (d : Def K mg "kept" s_kept ["machine"]) : Cal P w K mg base (L2.CX P w) (k + 1) "kept" ["machine"] (spKeptM CM) := by
  refine d.okX sc_kept (fun vs H Q E h => ?_) (fun f cdv A outer s H vs Q E hr h => ?_)
  · obtain ⟨_, _, _, rfl, _⟩ := h; rfl
  obtain ⟨Zn, u, e, rfl, hu, se, qr, qm⟩ := h
  refine ⟨_, (pss_cons (ps_set (i := 1) sc_kept.nd rfl (Or.inl rfl) (pe_calE (E := E) c_total hr (by rfl) (takes_of rfl rfl rfl rfl) (pa_cons (pv 0) pa_nil)))
      (pss_one (ps_ret (pe_and (pe_cmpR op_notN (pv 1) pe_non (nomark _)) (pe_one (pe_cmpR op_le (pe_ix ix_tup (pv 1) pe_int (fun _ _ => rfl)) (pe_ix ix_tup (pv 1) pe_int (fun _ _ => rfl)) (nomark _))))))), ?_⟩
  refine ⟨_, rfl, Zn, u, e, rfl, hu, se, fun z rows e1 ok => ⟨fun hp v H1 s1 a1 => ?_, fun hp H1 s1 => ?_⟩, fun mb H1 s1 => qm mb H1 s1⟩
  · obtain ⟨q1, q0⟩ := qr z rows e1 ok H1 s1
    obtain ⟨p, va, vb, rfl, ep, ha, hb⟩ := a1.pair
    cases (show va = V.int (topT (trimL z rows)) from ha)
    cases (show vb = V.int (botT (trimL z rows)) from hb)
    exact ⟨_, rfl, rfl, _, rfl, iteT ⟨_, rfl, p, _, 0, _, rfl, rfl, .of ep, rfl, _, rfl, p, _, 1, _, rfl, rfl, .of ep, rfl, _, _, rfl, rfl, q1 hp⟩⟩
  · obtain ⟨q1, q0⟩ := qr z rows e1 ok H1 s1
    exact ⟨_, rfl, rfl, _, rfl, iteF (q0 hp)⟩
end
end KL
end
section
namespace KL
variable {r : Nat → Nat → Int}
/-! ### another elimination, row by row, as a law does it -/
structure Own (n c : Nat) (r cur : Nat → Nat → Int) : Prop where
  eqv : ∀ X D, (∀ i, i < n → Lf n X D (cur i) = 0) ↔ (∀ i, i < n → Lf n X D (r i) = 0)
  dia : ∀ j, j < c → cur j j ≠ 0
  zer : ∀ i j, i < n → j < c → i ≠ j → cur i j = 0
theorem Own.start (n : Nat) (r : Nat → Nat → Int) : Own n 0 r r := ⟨fun _ _ => Iff.rfl, fun j h => by omega, fun i j _ h => by omega⟩
/-- rows each times a number -/
theorem Own.light {n c : Nat} {cur cur' : Nat → Nat → Int} (h : Own n c r cur) (k : Nat → Int) (hk : ∀ i, i < n → k i ≠ 0) (e : ∀ i, i < n → ∀ j, j ≤ n → cur i j = k i * cur' i j) (hc : c ≤ n) : Own n c r cur' := by
  have lf : ∀ X D i, i < n → Lf n X D (cur i) = k i * Lf n X D (cur' i) := fun X D i hi => by
    rw [← Lf_mul]
    unfold Lf
    rw [e i hi n (Nat.le_refl _), sumN_congr (g := fun j => (k i * cur' i j) * X j) fun j hj => by rw [e i hi j (by omega)]]
  refine ⟨fun X D => ?_, fun j hj h0 => ?_, fun i j hi hj ne => ?_⟩
  · rw [← h.eqv]
    constructor
    · intro q i hi
      rw [lf X D i hi, q i hi, Int.mul_zero]
    · intro q i hi
      have := q i hi
      rw [lf X D i hi] at this
      rcases Int.mul_eq_zero.mp this with x | x
      · exact absurd x (hk i hi)
      · exact x
  · exact h.dia j hj (by rw [e j (by omega) j (by omega), h0, Int.mul_zero])
  · have := h.zer i j hi hj ne
    rw [e i hi j (by omega)] at this
    rcases Int.mul_eq_zero.mp this with x | x
    · exact absurd x (hk i hi)
    · exact x
/-- two rows exchanged, neither done -/
theorem Own.swap {n c a b : Nat} {cur cur' : Nat → Nat → Int} (h : Own n c r cur) (ha : a < n) (hb : b < n) (hca : c ≤ a) (hcb : c ≤ b) (e : ∀ i, i < n → cur' i = cur (if i = a then b else if i = b then a else i)) : Own n c r cur' := by
  have lt : ∀ i, i < n → (if i = a then b else if i = b then a else i) < n := fun i hi => by split <;> (try split) <;> omega
  refine ⟨fun X D => ?_, fun j hj => ?_, fun i j hi hj ne => ?_⟩
  · rw [← h.eqv]
    constructor
    · intro q i hi
      have := q _ (lt i hi)
      rw [e _ (lt i hi)] at this
      rwa [show (if (if i = a then b else if i = b then a else i) = a then b else if (if i = a then b else if i = b then a else i) = b then a else (if i = a then b else if i = b then a else i)) = i by (repeat' split) <;> omega] at this
    · intro q i hi
      rw [e i hi]
      exact q _ (lt i hi)
  · rw [e j (by omega), if_neg (by omega), if_neg (by omega)]
    exact h.dia j hj
  · rw [e i hi]
    exact h.zer _ j (lt i hi) hj (by (repeat' split) <;> omega)
/-- one row cleared by the row c -/
theorem Own.clear {n c a : Nat} {cur cur' : Nat → Nat → Int} (h : Own n c r cur) (hc : c < n) (ha : a < n) (ne : a ≠ c) (h0 : cur c c ≠ 0) (e1 : ∀ i, i < n → i ≠ a → cur' i = cur i) (e2 : ∀ j, j ≤ n → cur' a j = cur a j * cur c c - cur a c * cur c j) : Own n c r cur' := by
  have lf : ∀ X D, Lf n X D (cur' a) = cur c c * Lf n X D (cur a) + (- cur a c) * Lf n X D (cur c) := fun X D => by
    rw [← Lf_mul, ← Lf_mul, ← Lf_add]
    unfold Lf
    rw [e2 n (Nat.le_refl _), sumN_congr (g := fun j => (cur c c * cur a j + (- cur a c) * cur c j) * X j) fun j hj => by rw [e2 j (by omega)]; grind]
    grind
  refine ⟨fun X D => ?_, fun j hj => ?_, fun i j hi hj nj => ?_⟩
  · rw [← h.eqv]
    constructor
    · intro q i hi
      by_cases ei : i = a
      · subst ei
        have qc := q c hc
        rw [e1 c hc (fun x => ne x.symm)] at qc
        have qa := q i hi
        rw [lf, qc, Int.mul_zero, Int.add_zero] at qa
        rcases Int.mul_eq_zero.mp qa with x | x
        · exact absurd x h0
        · exact x
      · have := q i hi
        rwa [e1 i hi ei] at this
    · intro q i hi
      by_cases ei : i = a
      · subst ei
        rw [lf, q i hi, q c hc]
        grind
      · rw [e1 i hi ei]; exact q i hi
  · by_cases ei : j = a
    · subst ei
      rw [e2 j (by omega), h.zer c j hc hj (by omega), Int.mul_zero, Int.sub_zero]
      intro x
      rcases Int.mul_eq_zero.mp x with y | y
      · exact h.dia j hj y
      · exact h0 y
    · rw [e1 j (by omega) ei]; exact h.dia j hj
  · by_cases ei : i = a
    · subst ei
      rw [e2 j (by omega), h.zer i j hi hj nj, h.zer c j hc hj (by omega)]
      grind
    · rw [e1 i hi ei]; exact h.zer i j hi hj nj
/-- the column c done -/
theorem Own.next {n c : Nat} {cur : Nat → Nat → Int} (h : Own n c r cur) (h0 : cur c c ≠ 0) (z : ∀ i, i < n → i ≠ c → cur i c = 0) : Own n (c + 1) r cur :=
  ⟨h.eqv, fun j hj => by
    by_cases e : j = c
    · subst e; exact h0
    · exact h.dia j (by omega), fun i j hi hj ne => by
    by_cases e : j = c
    · subst e; exact z i hi ne
    · exact h.zer i j hi (by omega) ne⟩
def prodN : Nat → (Nat → Int) → Int
  | 0, _ => 1
  | n + 1, f => prodN n f * f n
theorem prodN_ne {f : Nat → Int} : ∀ {n : Nat}, (∀ i, i < n → f i ≠ 0) → prodN n f ≠ 0
  | 0, _ => by show (1 : Int) ≠ 0; decide
  | n + 1, h => fun e => by
    rcases Int.mul_eq_zero.mp (show prodN n f * f n = 0 from e) with x | x
    · exact prodN_ne (fun i hi => h i (by omega)) x
    · exact h n (by omega) x
theorem prodN_dvd {f : Nat → Int} : ∀ {n i : Nat}, i < n → f i ∣ prodN n f
  | 0, _, h => by omega
  | n + 1, i, h => by
    by_cases e : i = n
    · subst e; exact Int.dvd_mul_left _ _
    · exact Int.dvd_trans (prodN_dvd (show i < n by omega)) (Int.dvd_mul_right _ _)
/-- all columns done: what it solves -/
theorem Own.sol {n : Nat} {cur : Nat → Nat → Int} (h : Own n n r cur) (X : Nat → Int) (D : Int) : (∀ i, i < n → Lf n X D (r i) = 0) ↔ ∀ i, i < n → cur i i * X i = D * cur i n := by
  rw [← h.eqv]
  have lf : ∀ i, i < n → Lf n X D (cur i) = cur i i * X i - D * cur i n := fun i hi => by
    unfold Lf
    rw [sumN_one hi fun j hj ne => by rw [h.zer i j hi hj (fun x => ne x.symm), Int.zero_mul]]
  constructor
  · intro q i hi
    have := q i hi
    rw [lf i hi] at this
    omega
  · intro q i hi
    rw [lf i hi, q i hi]
    omega
/-- all columns done, and each sum from nought on: the pivots of the first elimination are above nought -/
theorem Own.pos {n : Nat} {cur : Nat → Nat → Int} (h : Own n n r cur) (s : Sg n r) (lv : Live n r) (hI : ∀ i t, i < n → t < n → r i (n + 1 + t) = if t = i then 1 else 0) (hs : ∀ i, i < n → 0 ≤ cur i n * cur i i) : ∀ m, m ≤ n → 0 < dk r m := by
  have p0 := prodN_ne (f := fun i => cur i i) (n := n) h.dia
  have pD : 0 < prodN n (fun i => cur i i) * prodN n (fun i => cur i i) := by
    rcases Int.lt_or_gt_of_ne p0 with x | x
    · exact Int.mul_pos_of_neg_of_neg x x
    · exact Int.mul_pos x x
  refine piv_pos s lv hI (X := fun i => (prodN n (fun i => cur i i) * prodN n (fun i => cur i i) / (cur i i * cur i i)) * (cur i n * cur i i)) (D := prodN n (fun i => cur i i) * prodN n (fun i => cur i i)) pD (fun i hi => ?_) ((h.sol _ _).mpr fun i hi => ?_) n (Nat.le_refl _)
  · refine Int.mul_nonneg (Int.ediv_nonneg (by omega) ?_) (hs i hi)
    have := h.dia i hi
    rcases Int.lt_or_gt_of_ne this with x | x
    · exact Int.mul_nonneg_of_nonpos_of_nonpos (by omega) (by omega)
    · exact Int.mul_nonneg (by omega) (by omega)
  · obtain ⟨k, hk⟩ := prodN_dvd (f := fun i => cur i i) (n := n) hi
    have hd := h.dia i hi
    have e : prodN n (fun i => cur i i) * prodN n (fun i => cur i i) / (cur i i * cur i i) = k * k := by
      rw [hk]
      have : cur i i * k * (cur i i * k) = (cur i i * cur i i) * (k * k) := by grind
      rw [this, Int.mul_ediv_cancel_left _ (by
        intro x
        rcases Int.mul_eq_zero.mp x with y | y <;> exact hd y)]
    rw [e, hk]
    grind
/-- .. or it is below nought at one, and they are not -/
theorem Own.neg {n : Nat} {cur : Nat → Nat → Int} (h : Own n n r cur) (s : Sg n r) {i : Nat} (hi : i < n) (hn : cur i n * cur i i < 0) : ¬ ∀ m, m ≤ n → 0 < dk r m := fun hp => by
  have e := (h.sol _ _).mp (fun t ht => the_sol (r := r) (n := n) (fun m hm => by have := hp m hm; omega) ht) i hi
  have y := sol_nonneg s hp hi
  have d := hp n (Nat.le_refl _)
  have e2 : (cur i i * cur i i) * Yk r n i n = dk r n * (cur i n * cur i i) := by
    have e' : cur i i * Yk r n i n = dk r n * cur i n := e
    grind
  have l : 0 ≤ (cur i i * cur i i) * Yk r n i n := by
    refine Int.mul_nonneg ?_ y
    rcases Int.lt_or_gt_of_ne (h.dia i hi) with x | x
    · exact Int.mul_nonneg_of_nonpos_of_nonpos (by omega) (by omega)
    · exact Int.mul_nonneg (by omega) (by omega)
  have g : dk r n * (cur i n * cur i i) < 0 := Int.mul_neg_of_pos_of_neg d hn
  omega
/-- a column without a pivot: they are not -/
theorem Own.none {n c : Nat} {cur : Nat → Nat → Int} (h : Own n c r cur) (hc : c < n) (z : ∀ i, c ≤ i → i < n → cur i c = 0) : ¬ ∀ m, m ≤ n → 0 < dk r m := fun hp => by
  have p0 := prodN_ne (f := fun i => cur i i) (n := c) h.dia
  have hX : ∀ i, i < n → Lf n (fun j => if j = c then prodN c (fun i => cur i i) else if j < c then - (prodN c (fun i => cur i i) / cur j j * cur j c) else 0) 0 (cur i) = 0 := fun i hi => by
    unfold Lf
    rw [Int.zero_mul, Int.sub_zero]
    by_cases lt : i < c
    · -- only the places i and c count
      have : sumN n (fun j => cur i j * (if j = c then prodN c (fun i => cur i i) else if j < c then - (prodN c (fun i => cur i i) / cur j j * cur j c) else 0)) = sumN n (fun j => (if j = i then cur i i * - (prodN c (fun i => cur i i) / cur i i * cur i c) else 0) + (if j = c then cur i c * prodN c (fun i => cur i i) else 0)) := sumN_congr fun j hj => by
        by_cases e1 : j = c
        · subst e1
          rw [if_pos rfl, if_neg (by omega), if_pos rfl, Int.zero_add]
        · rw [if_neg e1, if_neg e1]
          by_cases e2 : j = i
          · subst e2
            rw [if_pos lt, if_pos rfl, Int.add_zero]
          · rw [if_neg e2]
            by_cases e3 : j < c
            · rw [h.zer i j hi e3 (fun x => e2 x.symm)]; grind
            · rw [if_neg e3]; grind
      rw [this, sumN_add, sumN_one hi (fun j hj ne => if_neg ne), sumN_one hc (fun j hj ne => if_neg ne), if_pos rfl, if_pos rfl]
      obtain ⟨k, hk⟩ := prodN_dvd (f := fun i => cur i i) (n := c) lt
      have hd := h.dia i lt
      rw [hk]
      rw [Int.mul_ediv_cancel_left _ hd]
      grind
    · refine sumN_zero fun j hj => ?_
      dsimp only
      by_cases e1 : j = c
      · subst e1
        rw [z i (by omega) hi, Int.zero_mul]
      · rw [if_neg e1]
        by_cases e3 : j < c
        · rw [h.zer i j hi e3 (by omega), Int.zero_mul]
        · rw [if_neg e3, Int.mul_zero]
  have e := one_sol ((h.eqv _ _).mp hX) hc
  have d := hp n (Nat.le_refl _)
  rw [Int.zero_mul, if_pos rfl] at e
  rcases Int.mul_eq_zero.mp e with x | x
  · omega
  · exact p0 x
/-- the same sums by both -/
theorem Own.same {n : Nat} {cur : Nat → Nat → Int} (h : Own n n r cur) (hp : ∀ m, m ≤ n → 0 < dk r m) {i : Nat} (hi : i < n) : cur i i * Yk r n i n = dk r n * cur i n :=
  (h.sol _ _).mp (fun t ht => the_sol (r := r) (n := n) (fun m hm => by have := hp m hm; omega) ht) i hi
end KL
end
section
namespace KL
/-! ### fractions in lowest terms -/
theorem gcd_parts {a b : Int} (hb : b ≠ 0) : ∃ g a' b' : Int, g = ((Nat.gcd a.natAbs b.natAbs : Nat) : Int) ∧ 0 < g ∧ a = g * a' ∧ b = g * b' ∧ Int.gcd a' b' = 1 := by
  have g0 : 0 < Nat.gcd a.natAbs b.natAbs := Nat.gcd_pos_of_pos_right _ (by omega)
  have e : (Nat.gcd a.natAbs b.natAbs) = Int.gcd a b := rfl
  refine ⟨_, a / (Int.gcd a b : Nat), b / (Int.gcd a b : Nat), rfl, by omega, ?_, ?_, ?_⟩
  · rw [e, Int.mul_ediv_cancel' (Int.gcd_dvd_left ..)]
  · rw [e, Int.mul_ediv_cancel' (Int.gcd_dvd_right ..)]
  · exact Int.gcd_ediv_gcd_ediv_gcd (by rw [← e]; exact g0)
theorem dvd_cop {a b c : Int} (h : a ∣ b * c) (g : Int.gcd a b = 1) : a ∣ c := Int.natAbs_dvd_natAbs.mp (Nat.Coprime.dvd_of_dvd_mul_left (k := a.natAbs) (m := b.natAbs) g (by rw [← Int.natAbs_mul]; exact Int.natAbs_dvd_natAbs.mpr h))
/-- two fractions that are alike have the same lowest terms -/
theorem low_eq {a b c e s : Int} (hb : 0 < b) (he : e ≠ 0) (x : e * a = b * c) (hs : s = if e < 0 then -((Nat.gcd c.natAbs e.natAbs : Nat) : Int) else ((Nat.gcd c.natAbs e.natAbs : Nat) : Int)) :
    c / s = a / ((Nat.gcd a.natAbs b.natAbs : Nat) : Int) ∧ e / s = b / ((Nat.gcd a.natAbs b.natAbs : Nat) : Int) ∧ s ≠ 0 := by
  obtain ⟨g, a', b', eg, g0, ea, eb, cp⟩ := gcd_parts (a := a) (b := b) (by omega)
  obtain ⟨h, c', e', eh, h0, ec, ee, cp2⟩ := gcd_parts (a := c) (b := e) he
  rw [← eg]
  rw [← eh] at hs
  obtain ⟨c2, e2, e20, ec2, ee2, cp3, s0⟩ : ∃ c2 e2 : Int, 0 < e2 ∧ c = s * c2 ∧ e = s * e2 ∧ Int.gcd c2 e2 = 1 ∧ s ≠ 0 := by
    by_cases neg : e < 0
    · rw [if_pos neg] at hs
      refine ⟨-c', -e', ?_, by rw [hs, ec]; grind, by rw [hs]; grind, by rw [Int.neg_gcd, Int.gcd_neg]; exact cp2, by omega⟩
      refine Classical.byContradiction fun k => ?_
      have : 0 ≤ h * e' := Int.mul_nonneg (by omega) (by omega)
      omega
    · rw [if_neg neg] at hs
      refine ⟨c', e', ?_, by rw [hs, ec], by rw [hs, ee], cp2, by omega⟩
      refine Classical.byContradiction fun k => ?_
      have : h * e' ≤ 0 := Int.mul_nonpos_of_nonneg_of_nonpos (by omega) (by omega)
      omega
  have b0 : 0 < b' := by
    refine Classical.byContradiction fun k => ?_
    have : g * b' ≤ 0 := Int.mul_nonpos_of_nonneg_of_nonpos (by omega) (by omega)
    omega
  have y : e2 * a' = b' * c2 := by
    have : (s * g) * (e2 * a') = (s * g) * (b' * c2) := by
      have x' : (s * e2) * (g * a') = (g * b') * (s * c2) := by rw [← ee2, ← ea, ← eb, ← ec2]; exact x
      grind
    exact Int.eq_of_mul_eq_mul_left (by
      intro z
      rcases Int.mul_eq_zero.mp z with z | z
      · exact s0 z
      · omega) this
  have d1 : b' ∣ e2 := dvd_cop (a := b') (b := a') (c := e2) ⟨c2, by rw [Int.mul_comm]; exact y⟩ (by rw [Int.gcd_comm]; exact cp)
  have d2 : e2 ∣ b' := dvd_cop (a := e2) (b := c2) (c := b') ⟨a', by rw [Int.mul_comm]; exact y.symm⟩ (by rw [Int.gcd_comm]; exact cp3)
  have eqb : e2 = b' := Int.le_antisymm (Int.le_of_dvd b0 d2) (Int.le_of_dvd e20 d1)
  subst eqb
  have eqa : a' = c2 := Int.eq_of_mul_eq_mul_left (by omega) y
  subst eqa
  refine ⟨?_, ?_, s0⟩
  · rw [ec2, ea, Int.mul_ediv_cancel_left _ s0, Int.mul_ediv_cancel_left _ (by omega)]
  · rw [ee2, eb, Int.mul_ediv_cancel_left _ s0, Int.mul_ediv_cancel_left _ (by omega)]
end KL
end
section
set_option maxHeartbeats 1000000
namespace KL
open PySem PySem.Spec PyProof.Rows L2
/-! ### the equations' signs, and that every state leads to an end -/
theorem pow_pos60 (m : Int) : 0 < (2 : Int) ^ (60 - m).toNat := Int.pow_pos (by decide)
theorem shT_nn (j : Nat) (st : Th) : 0 ≤ shT j st := by
  unfold shT
  split
  · split
    · have := pow_pos60 ‹Int›
      exact Int.le_of_lt (Int.pow_pos (by decide))
    · exact Int.le_refl _
  · exact Int.le_refl _
theorem shS_nn (j : Nat) : ∀ ss : List Th, 0 ≤ shS ss j
  | [] => Int.le_refl _
  | st :: ss => by
    have a := shT_nn j st
    have b := shS_nn j ss
    unfold shS at b ⊢
    rw [List.map_cons, List.sum_cons]
    omega
theorem shS_pos {j : Nat} {st : Th} (h : 0 < shT j st) : ∀ {ss : List Th}, st ∈ ss → 0 < shS ss j
  | [], m => nomatch m
  | x :: ss, m => by
    have a := shT_nn j x
    have b := shS_nn j ss
    have e : shS (x :: ss) j = shT j x + shS ss j := by unfold shS; rw [List.map_cons, List.sum_cons]
    rw [e]
    rcases List.mem_cons.mp m with rfl | m
    · omega
    · have := shS_pos h m
      omega
theorem shE_nn (e : Th) : 0 ≤ shE e := by
  unfold shE
  split
  · exact Int.le_of_lt (Int.pow_pos (by decide))
  · exact Int.le_refl _
theorem eqr_sg (rows : List Th) : Sg rows.length (eqr rows) := by
  constructor
  · intro i j hi hj ne
    unfold eqr
    rw [if_pos hj, if_neg (fun h => ne h.symm)]
    have := shS_nn j (stepsOf ((rows[i]?).getD .non))
    omega
  · intro i j hi hj
    unfold eqr
    rw [if_neg (by omega)]
    split
    · exact shE_nn _
    · split <;> decide
theorem eqr_id (rows : List Th) (i t : Nat) (_ : i < rows.length) (_ : t < rows.length) : eqr rows i (rows.length + 1 + t) = if t = i then 1 else 0 := by
  unfold eqr
  rw [if_neg (by omega), if_neg (by omega)]
  by_cases e : t = i
  · rw [if_pos (by omega), if_pos e]
  · rw [if_neg (by omega), if_neg e]
theorem eqr_live {z : Int} {rows : List Th} (ok : MOk z rows) (hl : ∀ s, s < rows.length → lvE rows s) : Live rows.length (eqr rows) := by
  rintro U ⟨k, hk, uk⟩ h1 h2
  obtain ⟨e, rc, he⟩ := hl k hk
  have all : ∀ b, Rc rows k b → b < rows.length ∧ U b := fun b r => by
    induction r with
    | base m => rw [List.mem_singleton.mp m]; exact ⟨hk, uk⟩
    | step r0 m ih =>
      rename_i a t
      obtain ⟨ha, ua⟩ := ih
      have ht : t < rows.length := ok.rc_lt hk (.step r0 m)
      refine ⟨ht, Classical.byContradiction fun nu => ?_⟩
      have z0 := h1 a ha ua t ht nu
      have nta : t ≠ a := fun h => nu (h ▸ ua)
      obtain ⟨l, mo, hl2, es⟩ := nx_step ok m
      unfold eqr at z0
      rw [if_pos ht, if_neg nta] at z0
      have mem : (Th.tup [.int mo, .int (t : Int)]) ∈ stepsOf ((rows[a]?).getD .non) := by
        unfold stepAt at es
        cases eg : (stepsOf ((rows[a]?).getD .non))[l]? with
        | none => rw [eg] at es; cases es
        | some x =>
          rw [eg] at es
          have es' : x = .tup [.int mo, .int (t : Int)] := es
          rw [← es']
          exact List.mem_of_getElem? eg
      have p := shS_pos (j := t) (st := .tup [.int mo, .int (t : Int)]) (by
        show 0 < (if (t : Int) = (t : Int) then (2 : Int) ^ (60 - mo).toNat else 0)
        rw [if_pos rfl]; exact pow_pos60 mo) mem
      omega
  obtain ⟨hen, ue⟩ := all e rc
  have z0 := h2 e hen ue
  unfold eqr at z0
  rw [if_neg (by omega), if_pos rfl] at z0
  obtain ⟨x, ss, er, c1, c2, c3⟩ := ok.row hen
  unfold isEnd at he
  rw [er] at z0 he
  rcases c1 with rfl | ⟨i, rfl, _⟩
  · exact he rfl
  · have := pow_pos60 i
    have z0' : (2 : Int) ^ (60 - i).toNat = 0 := z0
    omega
theorem shS_none (n j : Nat) : shS (List.replicate n .non) j = 0 := by
  induction n with
  | zero => rfl
  | succ n ih =>
    unfold shS at ih ⊢
    rw [List.replicate_succ, List.map_cons, List.sum_cons, ih]
    rfl
theorem bare_pos (z : Int) : PosR [bareRow z] := fun m hm => by
  have hm' : m ≤ 1 := hm
  rcases Nat.lt_or_ge m 1 with h | h
  · rw [show m = 0 by omega, dk_zero]; decide
  · rw [show m = 0 + 1 by omega, ← Tk_pivot, Tk_zero]
    show 0 < (if 0 < 1 then (if 0 = 0 then (2 : Int) ^ 60 else 0) - shS (List.replicate z.toNat .non) 0 else _)
    rw [if_pos (by decide), if_pos rfl, shS_none]
    decide
end KL
end
section
set_option maxHeartbeats 1000000
namespace KL
open PySem PySem.Spec PyProof.Rows L2
theorem low_abs {a b : Int} {c : Nat} (h : a.natAbs < 2 ^ c) : (a / ((Nat.gcd a.natAbs b.natAbs : Nat) : Int)).natAbs < 2 ^ c :=
  Nat.lt_of_le_of_lt (Int.natAbs_ediv_le_natAbs _ _) h
/-- the least number of bits more -/
def RaiseIs (a b : Int) (k : Nat) : Prop := a ≤ b * 2 ^ k ∧ ∀ j, j < k → b * 2 ^ j < a
def spRaised (CM : Addr) : Sp := fun vs H Q E => ∃ (Z : Zone) (u : V) (e : Th), vs = [u] ∧ At Z H e u ∧ shortT e = true ∧
  (∀ z rows, e = .tup [.int z, .tup rows] → MOk z rows → ∀ H', Same H H' → (PosR (trimL z rows) → ∀ k : Nat, RaiseIs (topT (trimL z rows)) (botT (trimL z rows)) k → Q (.int (k : Nat)) H') ∧ (¬ PosR (trimL z rows) → Q .non H')) ∧ (machB e = false → ∀ H', Same H H' → E (.ref CM) none H')
theorem topT_small {z : Int} {rows : List Th} (ok : MOk z rows) : (topT rows).natAbs < 2 ^ 4000 := by
  refine low_abs ?_
  exact Nat.lt_of_le_of_lt (Dt_abs (N := 31) (M := 31 * 2 ^ 64) (eqr_abs ok) (Nat.le_refl _) _ (by have := ok.n30; omega)) (pow_small (by have := ok.n30; omega))
theorem botT_small {z : Int} {rows : List Th} (ok : MOk z rows) (hp : PosR rows) : (botT rows).natAbs < 2 ^ 4000 ∧ 0 < botT rows := by
  have d := hp rows.length (Nat.le_refl _)
  have b := dk_small (k := rows.length) (eqr_abs ok) (by have := ok.n30; omega)
  refine ⟨Nat.lt_of_le_of_lt (Int.natAbs_ediv_le_natAbs _ _) b, ?_⟩
  have g0 : 0 < Nat.gcd (Yk (eqr rows) rows.length 0 rows.length).natAbs (dk (eqr rows) rows.length).natAbs := Nat.gcd_pos_of_pos_right _ (by omega)
  have g1 : Nat.gcd (Yk (eqr rows) rows.length 0 rows.length).natAbs (dk (eqr rows) rows.length).natAbs ≤ (dk (eqr rows) rows.length).natAbs := Nat.gcd_le_right _ (by omega)
  exact Int.ediv_pos_of_pos_of_dvd d (by omega) (Int.natAbs_dvd_natAbs.mp (by rw [Int.natAbs_natCast]; exact Nat.gcd_dvd_right _ _))
def spHalv : Sp := fun vs H Q _ => ∃ (Z : Zone) (u : V) (a b : Int), vs = [u] ∧ At Z H (.tup [.int a, .int b]) u ∧ a.natAbs < 2 ^ 4000 ∧ b.natAbs < 2 ^ 4000 ∧ 0 < b ∧ ∀ k : Nat, RaiseIs a b k → Q (.int (k : Nat)) H
section
variable {P : Program} {w : World} {K : PySem.W.Frag} {mg : Str → Option Value} {base : Heap} {k : Nat} {t1 t2 t3 : Tok}
end
end KL
end
section
set_option maxHeartbeats 1000000
namespace KL
open PySem PySem.Spec PyProof.Rows L2
def rLcm : List V → Hp → VK → Prop := fun vs H Q => ∃ a b : Int, vs = [.int a, .int b] ∧ a.natAbs < 2 ^ 8900 ∧ b.natAbs < 2 ^ 8900 ∧ Q (.int ((Nat.lcm a.natAbs b.natAbs : Nat) : Int)) H
theorem cr_lcm {X : Cx} : CallR X (.builtin "math.lcm") rLcm := by
  intro pins s σ H vs us Q I r h
  obtain ⟨a, b, rfl, ha, hb, q⟩ := h
  obtain ⟨t, u, rfl⟩ := Vals.int2 r
  have l1 : a.natAbs.log2 < 8900 := PySem.Flt.log2_lt_of (by decide) ha
  have l2 : b.natAbs.log2 < 8900 := PySem.Flt.log2_lt_of (by decide) hb
  have h1 : (max 1 a.natAbs).log2 < 8900 := by
    rcases Nat.le_total 1 a.natAbs with h | h
    · rw [Nat.max_eq_right h]; exact l1
    · rw [Nat.max_eq_left h]; decide
  have h2 : (max a.natAbs b.natAbs).log2 < 8900 := by
    rcases Nat.le_total a.natAbs b.natAbs with h | h
    · rw [Nat.max_eq_right h]; exact l2
    · rw [Nat.max_eq_left h]; exact l1
  have e1 : Nat.lcm 1 a.natAbs = a.natAbs := PySem.W.mc_lcm_one _
  have hsz : ((((Nat.lcm 1 a.natAbs).lcm b.natAbs : Nat) : Int)).natAbs.log2 < bitsLine := by
    rw [Int.natAbs_natCast, e1]
    refine PySem.W.mc_size (k := 300) (Nat.le_trans (PySem.W.mc_lcm_le _ _) (Nat.le_trans (Nat.mul_le_mul (Nat.le_of_lt ha) (Nat.le_of_lt hb)) ?_)) (by decide)
    rw [← Nat.pow_add]
    exact Nat.pow_le_pow_right (by decide) (by decide)
  rw [← e1] at q
  exact call_function_meets PySem.W.MGF.kind_lcm PySem.W.MGF.plain_lcm PySem.W.MGF.entry_lcm (PySem.W.MGF.args_lcm _ _) (PySem.W.mg_run_lcm a t b u (by omega) (by omega) hsz).meets ⟨.int _, H, I.tok _, ⟨_, rfl⟩, q⟩
def fracB : Th → Bool
  | .tup [.int a, .int b] => decide (0 ≤ a) && (decide (1 ≤ b) && decide (Nat.gcd a.natAbs b.natAbs = 1))
  | _ => false
def topI : Th → Int
  | .tup [.int a, .int _] => a
  | _ => 0
def botI : Th → Int
  | .tup [.int _, .int b] => b
  | _ => 1
theorem fracB_is {d : Th} (h : fracB d = true) : d = .tup [.int (topI d), .int (botI d)] ∧ 0 ≤ topI d ∧ 1 ≤ botI d ∧ Nat.gcd (topI d).natAbs (botI d).natAbs = 1 := by
  unfold fracB at h
  split at h
  · rw [Bool.and_eq_true, Bool.and_eq_true, decide_eq_true_eq, decide_eq_true_eq, decide_eq_true_eq] at h
    exact ⟨rfl, h.1, h.2.1, h.2.2⟩
  · cases h
theorem fracB_not {d : Th} (h : isPair d = false) : fracB d = false := by
  cases d with
  | tup xs => match xs, h with
    | [], _ => rfl
    | [a], _ => cases a <;> rfl
    | [_, _], h => cases h
    | a :: b :: _ :: _, _ => cases a <;> cases b <;> rfl
  | _ => rfl
theorem fracB_num {a b : Th} (h : (!(isNum a && isNum b)) = true) : fracB (.tup [a, b]) = false := by
  have h' := not_true h
  cases a <;> cases b <;> first | rfl | cases h'
/-- the least common multiple of the first i bottoms -/
def lcmN (fs : List Th) : Nat → Nat
  | 0 => 1
  | i + 1 => Nat.lcm (lcmN fs i) (botI ((fs[i]?).getD .non)).natAbs
def tpI (fs : List Th) (i : Nat) : Int := topI ((fs[i]?).getD .non) * ((lcmN fs fs.length : Nat) / botI ((fs[i]?).getD .non))
theorem botI_nz (d : Th) (h : fracB d = true) : 0 < (botI d).natAbs := by have := (fracB_is h).2.2.1; omega
theorem lcmN_pos {fs : List Th} (h : ∀ f ∈ fs, fracB f = true) : ∀ i, i ≤ fs.length → 0 < lcmN fs i
  | 0, _ => Nat.one_pos
  | i + 1, hi => Nat.lcm_pos (lcmN_pos h i (by omega)) (by
    rw [List.getElem?_eq_getElem (by omega)]
    exact botI_nz _ (h _ (List.getElem_mem _)))
theorem lcmN_dvd {fs : List Th} {D : Nat} (h : ∀ f ∈ fs, (botI f).natAbs ∣ D) : ∀ i, i ≤ fs.length → lcmN fs i ∣ D
  | 0, _ => Nat.one_dvd _
  | i + 1, hi => Nat.lcm_dvd (lcmN_dvd h i (by omega)) (by
    rw [List.getElem?_eq_getElem (by omega)]
    exact h _ (List.getElem_mem _))
theorem bot_dvd {fs : List Th} {j : Nat} : ∀ {i : Nat}, j < i → (botI ((fs[j]?).getD .non)).natAbs ∣ lcmN fs i
  | 0, h => by omega
  | i + 1, h => by
    by_cases e : j = i
    · subst e; exact Nat.dvd_lcm_right _ _
    · exact Nat.dvd_trans (bot_dvd (show j < i by omega)) (Nat.dvd_lcm_left _ _)
def Bal (rows fs : List Th) : Prop := ∀ s, s < rows.length → Lf rows.length (tpI fs) ((lcmN fs fs.length : Nat) : Int) (eqr rows s) = 0
def spBal : Sp := fun vs H Q _ => ∃ (Z Z2 : Zone) (pr pt : Addr) (us ts : List V) (z : Int) (rows fs : List Th), vs = [.ref pr, .ref pt] ∧ H pr = some (.tup us) ∧ AtAll Z H rows us ∧ MOk z rows ∧ H pt = some (.tup ts) ∧ AtAll Z2 H fs ts ∧ fs.length = rows.length ∧
  (∀ f ∈ fs, fracB f = true ∧ (topI f).natAbs < 2 ^ 4100) ∧ (∃ D : Nat, 0 < D ∧ D < 2 ^ 8900 ∧ ∀ f ∈ fs, (botI f).natAbs ∣ D) ∧ ∀ H', Same H H' → (Bal rows fs → Q (.bl true) H') ∧ (¬ Bal rows fs → Q (.bl false) H')
theorem sumN_ints (f : Nat → Int) : ∀ n, (((List.range n).map f).sum) = sumN n f
  | 0 => rfl
  | n + 1 => by
    rw [List.range_succ, List.map_append, List.sum_append, sumN_ints f n]
    show sumN n f + (f n + 0) = sumN n f + f n
    omega
section
variable {P : Program} {w : World} {K : PySem.W.Frag} {mg : Str → Option Value} {base : Heap} {k : Nat} {t1 t2 t3 : Tok}
end
end KL
end
section
namespace KL
variable {r : Nat → Nat → Int}
/-! ### the law's own rows are those of the first elimination, lightened: so they stay small -/
def Prim (n : Nat) (f : Nat → Int) : Prop := (∀ j, j ≤ n → f j = 0) ∨ ∀ d : Int, (∀ j, j ≤ n → d ∣ f j) → d ∣ 1
theorem prop_le {n : Nat} {f t : Nat → Int} {a b : Int} (ha : a ≠ 0) (hb : b ≠ 0) (e : ∀ j, j ≤ n → a * f j = b * t j) (p : Prim n f) {j : Nat} (hj : j ≤ n) : (f j).natAbs ≤ (t j).natAbs := by
  rcases p with p | p
  · rw [p j hj]; exact Nat.zero_le _
  obtain ⟨g, a', b', _, g0, ea, eb, cp⟩ := gcd_parts (a := a) (b := b) hb
  have e' : ∀ j, j ≤ n → a' * f j = b' * t j := fun j hj => by
    have := e j hj
    rw [ea, eb] at this
    refine Int.eq_of_mul_eq_mul_left (a := g) (by omega) ?_
    grind
  have d := p b' fun j hj => dvd_cop (a := b') (b := a') (c := f j) ⟨t j, e' j hj⟩ (by rw [Int.gcd_comm]; exact cp)
  have b1 : b'.natAbs = 1 := Nat.dvd_one.mp (Int.natAbs_dvd_natAbs.mpr d)
  have a0 : 1 ≤ a'.natAbs := by
    have : a' ≠ 0 := fun z => ha (by rw [ea, z, Int.mul_zero])
    omega
  have x := congrArg Int.natAbs (e' j hj)
  rw [Int.natAbs_mul, Int.natAbs_mul, b1, Nat.one_mul] at x
  have := Nat.mul_le_mul_right (f j).natAbs a0
  omega
/-- the rows, exchanged somehow, proportional row by row -/
structure Like (n c : Nat) (r' cur : Nat → Nat → Int) : Prop where
  ne : ∀ m, m ≤ c → dk r' m ≠ 0
  row : ∀ i, i < n → ∃ a b : Int, a ≠ 0 ∧ b ≠ 0 ∧ ∀ j, j ≤ n → a * cur i j = b * Tk r' c i j
theorem Like.le {n c : Nat} {r' cur : Nat → Nat → Int} (h : Like n c r' cur) {i j : Nat} (hi : i < n) (hj : j ≤ n) (p : Prim n (cur i)) : (cur i j).natAbs ≤ (Tk r' c i j).natAbs := by
  obtain ⟨a, b, ha, hb, e⟩ := h.row i hi
  exact prop_le ha hb e p hj
theorem Like.light {n c : Nat} {r' cur cur' : Nat → Nat → Int} (h : Like n c r' cur) (k : Nat → Int) (hk : ∀ i, i < n → k i ≠ 0) (e : ∀ i, i < n → ∀ j, j ≤ n → cur i j = k i * cur' i j) : Like n c r' cur' :=
  ⟨h.ne, fun i hi => by
    obtain ⟨a, b, ha, hb, q⟩ := h.row i hi
    exact ⟨a * k i, b, Int.mul_ne_zero ha (hk i hi), hb, fun j hj => by rw [← q j hj, e i hi j hj, Int.mul_assoc]⟩⟩
theorem Like.start {n : Nat} (r : Nat → Nat → Int) : Like n 0 r r :=
  ⟨fun m hm => by rw [show m = 0 by omega, dk_zero]; decide, fun i hi => ⟨1, 1, by decide, by decide, fun j hj => by rw [Tk_zero]⟩⟩
/-- what is told of the first c rows is the same when later rows are exchanged -/
theorem Dt_rows {r s : Nat → Nat → Int} : ∀ {n : Nat} (c : Nat → Nat), (∀ t, t < n → r t = s t) → Dt r n c = Dt s n c
  | 0, _, _ => rfl
  | n + 1, c, h => by
    rw [Dt, Dt]
    refine sumN_congr fun p hp => ?_
    rw [h n (by omega), Dt_rows _ fun t ht => h t (by omega)]
theorem Gk_rows {r s : Nat → Nat → Int} {k : Nat} (h : ∀ t, t < k → r t = s t) (x : Nat → Int) (j : Nat) : Gk r k x j = Gk s k x j := by
  unfold Gk dk Yk
  rw [Dt_rows _ h, sumN_congr fun q hq => by rw [Dt_rows _ h]]
def exch (a b i : Nat) : Nat := if i = a then b else if i = b then a else i
theorem Tk_exch {c a i : Nat} (ha : c ≤ a) : Tk (fun i => r (exch c a i)) c i = Tk r c (exch c a i) := by
  have low : ∀ t, t < c → (fun i => r (exch c a i)) t = r t := fun t ht => by
    show r (exch c a t) = r t
    unfold exch
    rw [if_neg (by omega), if_neg (by omega)]
  funext j
  unfold Tk
  by_cases lt : i < c
  · rw [if_pos lt, if_pos (by unfold exch; rw [if_neg (by omega), if_neg (by omega)]; exact lt)]
    unfold Yk
    rw [Dt_rows _ low, show exch c a i = i by unfold exch; rw [if_neg (by omega), if_neg (by omega)]]
  · rw [if_neg lt, if_neg (by unfold exch; (repeat' split) <;> omega), Gk_rows low]
theorem Like.swap {n c a : Nat} {r' cur cur' : Nat → Nat → Int} (h : Like n c r' cur) (hc : c < n) (ha : a < n) (hca : c ≤ a) (e : ∀ i, i < n → cur' i = cur (exch c a i)) : Like n c (fun i => r' (exch c a i)) cur' := by
  have low : ∀ m, m ≤ c → ∀ t, t < m → (fun i => r' (exch c a i)) t = r' t := fun m hm t ht => by
    show r' (exch c a t) = r' t
    unfold exch
    rw [if_neg (by omega), if_neg (by omega)]
  refine ⟨fun m hm => ?_, fun i hi => ?_⟩
  · unfold dk
    rw [Dt_rows _ (low m hm)]
    exact h.ne m hm
  · obtain ⟨x, y, hx, hy, q⟩ := h.row (exch c a i) (by unfold exch; (repeat' split) <;> omega)
    exact ⟨x, y, hx, hy, fun j hj => by rw [e i hi, Tk_exch hca]; exact q j hj⟩
/-- the column c done: each other row cleared, or left where its item is nought -/
theorem Like.next {n c : Nat} {r' cur cur' : Nat → Nat → Int} (h : Like n c r' cur) (hc : c < n) (h0 : cur c c ≠ 0) (ec : cur' c = cur c)
    (e : ∀ i, i < n → i ≠ c → (cur i c = 0 ∧ cur' i = cur i) ∨ ∃ k : Int, k ≠ 0 ∧ ∀ j, j ≤ n → cur i j * cur c c - cur i c * cur c j = k * cur' i j) : Like n (c + 1) r' cur' := by
  obtain ⟨x, y, hx, hy, q⟩ := h.row c hc
  have p0 : dk r' (c + 1) ≠ 0 := fun z => by
    have := q c (by omega)
    rw [Tk_pivot, z, Int.mul_zero] at this
    rcases Int.mul_eq_zero.mp this with w | w
    · exact hx w
    · exact h0 w
  have hne : ∀ m, m ≤ c + 1 → dk r' m ≠ 0 := fun m hm => by
    by_cases em : m = c + 1
    · subst em; exact p0
    · exact h.ne m (by omega)
  refine ⟨hne, fun i hi => ?_⟩
  by_cases ei : i = c
  · subst ei
    exact ⟨x, y, hx, hy, fun j hj => by rw [ec, Tk_same]; exact q j hj⟩
  · obtain ⟨a, b, ha, hb, s⟩ := h.row i hi
    have d0 := h.ne c (Nat.le_refl _)
    have st : ∀ j, Tk r' c c c * Tk r' c i j - Tk r' c i c * Tk r' c c j = dk r' c * Tk r' (c + 1) i j := fun j => Tk_step hne ei j
    rcases e i hi ei with ⟨z, e1⟩ | ⟨k, hk, e1⟩
    · have tz : Tk r' c i c = 0 := by
        have := s c (by omega)
        rw [z, Int.mul_zero] at this
        rcases Int.mul_eq_zero.mp this.symm with w | w
        · exact absurd w hb
        · exact w
      refine ⟨a * Tk r' c c c, b * dk r' c, Int.mul_ne_zero ha (by rw [Tk_pivot]; exact p0), Int.mul_ne_zero hb d0, fun j hj => ?_⟩
      have u := st j
      rw [tz, Int.zero_mul, Int.sub_zero] at u
      have v := s j hj
      rw [e1]
      grind
    · refine ⟨a * x * k, b * y * dk r' c, Int.mul_ne_zero (Int.mul_ne_zero ha hx) hk, Int.mul_ne_zero (Int.mul_ne_zero hb hy) d0, fun j hj => ?_⟩
      have u := st j
      have v := s j hj
      have v2 := s c (by omega)
      have w1 := q c (by omega)
      have w2 := q j hj
      have m := e1 j hj
      have : a * x * k * cur' i j = (a * cur i j) * (x * cur c c) - (a * cur i c) * (x * cur c j) := by
        have : a * x * k * cur' i j = a * x * (k * cur' i j) := by grind
        rw [this, ← m]; grind
      rw [this, v, w1, v2, w2]
      have : b * Tk r' c i j * (y * Tk r' c c c) - b * Tk r' c i c * (y * Tk r' c c j) = b * y * (Tk r' c c c * Tk r' c i j - Tk r' c i c * Tk r' c c j) := by grind
      rw [this, u]; grind
end KL
end
section
set_option maxHeartbeats 1000000
namespace KL
open PySem PySem.Spec PyProof.Rows L2
abbrev sc_law_powerN : List Str := ["_law_much", "_law_found", "_law_turn"]
abbrev s_law_power : Stmt := topS 51
theorem sc_law_power : FnScope ["_law_much", "_law_found", "_law_turn"] ["_law_much"] (defScope s_law_power) := ⟨rfl, rfl, rfl, by decide +kernel, rfl, by decide +kernel, by decide +kernel⟩
abbrev sc_law_gcdN : List Str := ["_law_one", "_law_other"]
abbrev s_law_gcd : Stmt := topS 55
theorem sc_law_gcd : FnScope ["_law_one", "_law_other"] ["_law_one", "_law_other"] (defScope s_law_gcd) := ⟨rfl, rfl, rfl, by decide +kernel, rfl, by decide +kernel, by decide +kernel⟩
abbrev sc_law_reducedN : List Str := ["_law_top", "_law_bottom", "_law_shared"]
abbrev s_law_reduced : Stmt := topS 56
theorem sc_law_reduced : FnScope ["_law_top", "_law_bottom", "_law_shared"] ["_law_top", "_law_bottom"] (defScope s_law_reduced) := ⟨rfl, rfl, rfl, by decide +kernel, rfl, by decide +kernel, by decide +kernel⟩
abbrev sc_law_lighterN : List Str := ["_law_row", "_law_shared", "_law_one"]
abbrev s_law_lighter : Stmt := topS 58
theorem sc_law_lighter : FnScope ["_law_row", "_law_shared", "_law_one"] ["_law_row"] (defScope s_law_lighter) := ⟨rfl, rfl, rfl, by decide +kernel, rfl, by decide +kernel, by decide +kernel⟩
structure Ga (mg : Str → Option Value) : Prop where
  abs : mg "abs" = none
def CDivX (_ j : Int) : Prop := j ≠ 0 ∧ j.natAbs.log2 < 9000
section
variable {X : Cx}
theorem op_fdivX : OpR X (binaryOp .FloorDiv) (rI CDivX fun i j => .int (i.fdiv j)) := opI fun i j _ _ _ _ _ hc q => floordiv_int hc.1 q (.inl (PyProof.noPylong_of_log2 hc.2))
end
theorem cdivx {i j : Int} (h : j ≠ 0) (hb : j.natAbs < 2 ^ 8900) : CDivX i j := ⟨h, Nat.lt_of_lt_of_le (PySem.Flt.log2_lt_of (by decide) hb) (by decide)⟩
def spPower : Sp := fun vs H Q _ => ∃ n : Nat, vs = [.int (n : Nat)] ∧ n ≤ 100000 ∧ Q (.int (2 ^ n)) H
def spGcd : Sp := fun vs H Q _ => ∃ a b : Int, vs = [.int a, .int b] ∧ ∀ H', Same H H' → Q (.int ((Nat.gcd a.natAbs b.natAbs : Nat) : Int)) H'
def sgcd (a b : Int) : Int := if b < 0 then -((Nat.gcd a.natAbs b.natAbs : Nat) : Int) else ((Nat.gcd a.natAbs b.natAbs : Nat) : Int)
def spReduced : Sp := fun vs H Q _ => ∃ a b : Int, vs = [.int a, .int b] ∧ b ≠ 0 ∧ b.natAbs < 2 ^ 8900 ∧ ∀ p H', Same H H' → H p = none → H' p = some (.tup [.int (a / sgcd a b), .int (b / sgcd a b)]) → Q (.ref p) H'
def gcN (f : Nat → Int) : Nat → Nat
  | 0 => 0
  | n + 1 => Nat.gcd (gcN f n) (f n).natAbs
def spLighter : Sp := fun vs H Q _ => ∃ (a : Addr) (f : Nat → Int) (n : Nat), vs = [.ref a] ∧ H a = some (.lst (rowV f n)) ∧ n ≤ 100 ∧ (∀ j, j < n → (f j).natAbs < 2 ^ 8900) ∧
  (gcN f n = 0 → ∀ H', Same H H' → Q (.ref a) H') ∧ (gcN f n ≠ 0 → ∀ N H', Same H H' → H N = none → H' N = some (.lst (rowV (fun j => f j / (gcN f n : Nat)) n)) → Q (.ref N) H')
theorem ndvd {n : Nat} {i : Int} (h : n ∣ i.natAbs) : (n : Int) ∣ i := Int.natAbs_dvd_natAbs.mp (by rw [Int.natAbs_natCast]; exact h)
theorem gcN_dvd {f : Nat → Int} : ∀ {n j : Nat}, j < n → ((gcN f n : Nat) : Int) ∣ f j
  | 0, _, h => by omega
  | n + 1, j, h => by
    by_cases e : j = n
    · subst e
      exact ndvd (Nat.gcd_dvd_right _ _)
    · exact Int.dvd_trans (Int.natCast_dvd_natCast.mpr (Nat.gcd_dvd_left _ _)) (gcN_dvd (show j < n by omega))
theorem gcN_le {f : Nat → Int} {b : Nat} : ∀ {n : Nat}, (∀ j, j < n → (f j).natAbs < b) → 0 < b → gcN f n < b
  | 0, _, h => h
  | n + 1, h, hb => by
    have a := gcN_le (n := n) (fun j hj => h j (by omega)) hb
    have c := h n (by omega)
    show Nat.gcd (gcN f n) (f n).natAbs < b
    rcases Nat.eq_zero_or_pos (gcN f n) with z | z
    · rw [z, Nat.gcd_zero_left]; exact c
    · exact Nat.lt_of_le_of_lt (Nat.gcd_le_left _ z) a
section
variable {P : Program} {w : World} {K : PySem.W.Frag} {mg : Str → Option Value} {base : Heap} {k : Nat} {t1 t2 t3 : Tok}
theorem ok_law_power (Z : Zs mg) (d : Def K mg "_law_power" s_law_power ["_law_much"]) : Cal P w K mg base CX0 (k + 1) "_law_power" ["_law_much"] spPower := by
  refine d.ok sc_law_power (fun vs H Q E h => ?_) (fun f cdv A outer s H vs Q E hr h => ?_)
  · obtain ⟨_, rfl, _⟩ := h; rfl
  obtain ⟨n, rfl, hn, q⟩ := h
  refine ⟨_, (pss_cons (ps_set (i := 1) sc_law_power.nd rfl (Or.inl rfl) pe_int)
      (pss_cons (ps_for PassesOwn.never rfl (pi_range1 (by rfl) Z.range (pa_cons (pv 0) pa_nil)) (pg_name (i := 2) sc_law_power.nd rfl (Or.inl rfl)) (pss_one (ps_set (i := 1) sc_law_power.nd rfl (Or.inl rfl) (pe_op op_mul (pv 1) pe_int))))
      (pss_one (ps_ret (pv 1))))), ?_⟩
  refine ⟨_, rfl, _, rfl, by omega, by omega, ?_⟩
  rw [Int.toNat_natCast]
  refine for_range (lo := 0) (n := n) (fun i σ' H' => H' = H ∧ ∃ y : Option V, σ' = [some (.int (n : Nat)), some (.int (2 ^ i)), y]) ⟨rfl, none, rfl⟩ (fun i σ' H' hi hh => ?_) (fun σ' H' hh => ?_)
  · obtain ⟨rfl, y, rfl⟩ := hh
    refine ⟨_, rfl, _, _, rfl, rfl, .inr ⟨by decide, by decide⟩, rfl, some (.int (0 + (i : Nat))), ?_⟩
    rw [Int.pow_succ]; rfl
  · obtain ⟨rfl, y, rfl⟩ := hh
    exact ⟨_, rfl, q⟩
theorem ok_law_gcd (G : Ga mg) (Z : Zs mg) (d : Def K mg "_law_gcd" s_law_gcd ["_law_one", "_law_other"]) : Cal P w K mg base CX0 (k + 1) "_law_gcd" ["_law_one", "_law_other"] spGcd := by
  refine d.ok sc_law_gcd (fun vs H Q E h => ?_) (fun f cdv A outer s H vs Q E hr h => ?_)
  · obtain ⟨_, _, rfl, _⟩ := h; rfl
  obtain ⟨a, b, rfl, q⟩ := h
  refine ⟨_, (pss_cons (ps_par (i := 0) (j := 1) rfl sc_law_gcd.nd rfl rfl (by decide) rfl rfl (pa_cons (pe_callB (id := "abs") call_abs (by rfl) G.abs (by decide +kernel) (pa_cons (pv 0) pa_nil)) (pa_cons (pe_callB (id := "abs") call_abs (by rfl) G.abs (by decide +kernel) (pa_cons (pv 1) pa_nil)) pa_nil)) (by rfl))
      (pss_cons (ps_while PassesOwn.never (pt_cmpR op_gt (pv 1) pe_int (nomark _)) (pss_one (ps_par (i := 0) (j := 1) rfl sc_law_gcd.nd rfl rfl (by decide) rfl rfl (pa_cons (pv 1) (pa_cons (pe_op op_mod (pe_callTy (T := "int") call_int1 (by rfl) Z.int (by decide +kernel) (pa_cons (pv 0) pa_nil)) (pv 1)) pa_nil)) (by rfl))))
      (pss_one (ps_ret (pv 0))))), ?_⟩
  refine ⟨_, rfl, _, rfl, _, rfl, _, rfl, _, _, rfl, ?_⟩
  rw [show (if a < 0 then -a else a) = ((a.natAbs : Nat) : Int) by split <;> omega, show (if b < 0 then -b else b) = ((b.natAbs : Nat) : Int) by split <;> omega]
  refine ⟨fun m σ' H' => ∃ x : Nat, H' = H ∧ σ' = [some (.int (x : Nat)), some (.int (m : Nat))] ∧ Nat.gcd x m = Nat.gcd a.natAbs b.natAbs, ⟨b.natAbs, a.natAbs, rfl, rfl, rfl⟩, fun m σ' H' hh => ?_⟩
  obtain ⟨x, rfl, rfl, e⟩ := hh
  refine ⟨_, rfl, _, _, rfl, rfl, _, rfl, ?_⟩
  by_cases h0 : (0 : Int) < (m : Int)
  · rw [decide_eq_true h0]
    refine iteT ?_
    refine ⟨fun σ' H'' => ∃ m', m' < m ∧ ∃ x : Nat, H'' = H' ∧ σ' = [some (.int (x : Nat)), some (.int (m' : Nat))] ∧ Nat.gcd x m' = Nat.gcd a.natAbs b.natAbs, fun _ _ h => h, ?_⟩
    refine ⟨_, rfl, _, rfl, .inl ⟨_, rfl, _, rfl, _, _, rfl, rfl, h0, _, _, rfl, ?_⟩⟩
    refine ⟨x % m, Nat.mod_lt _ (by omega), m, rfl, rfl, ?_⟩
    rw [← e, Nat.gcd_comm x m, Nat.gcd_rec m x, Nat.gcd_comm]
  · rw [decide_eq_false h0]
    refine iteF ⟨_, rfl, ?_⟩
    have m0 : m = 0 := by omega
    subst m0
    rw [Nat.gcd_zero_right] at e
    rw [e]
    exact q H' (Same.refl _)
theorem ok_law_reduced (c_law_gcd : Cal P w K mg base CX0 k "_law_gcd" ["_law_one", "_law_other"] spGcd) (d : Def K mg "_law_reduced" s_law_reduced ["_law_top", "_law_bottom"]) : Cal P w K mg base CX0 (k + 1) "_law_reduced" ["_law_top", "_law_bottom"] spReduced := by
  refine d.ok sc_law_reduced (fun vs H Q E h => ?_) (fun f cdv A outer s H vs Q E hr h => ?_)
  · obtain ⟨_, _, rfl, _⟩ := h; rfl
  obtain ⟨a, b, rfl, b0, bb, q⟩ := h
  refine ⟨_, (pss_cons (ps_set (i := 2) sc_law_reduced.nd rfl (Or.inl rfl) (pe_cal c_law_gcd hr (by rfl) (pa_cons (pv 0) (pa_cons (pv 1) pa_nil))))
      (pss_cons (ps_if (pt_cmpR op_lt (pv 1) pe_int (nomark _)) (pss_one (ps_set (i := 2) sc_law_reduced.nd rfl (Or.inl rfl) (pe_un un_neg (pv 2)))) pss_nil)
      (pss_one (ps_ret (pe_tup (pa_cons (pe_op op_fdivX (pv 0) (pv 2)) (pa_cons (pe_op op_fdivX (pv 1) (pv 2)) pa_nil))))))), ?_⟩
  refine ⟨_, rfl, _, rfl, a, b, rfl, fun H1 s1 => ?_⟩
  have g0 : 0 < Nat.gcd a.natAbs b.natAbs := Nat.gcd_pos_of_pos_right _ (by omega)
  have g1 : Nat.gcd a.natAbs b.natAbs ≤ b.natAbs := Nat.gcd_le_right _ (by omega)
  have da : ((Nat.gcd a.natAbs b.natAbs : Nat) : Int) ∣ a := ndvd (Nat.gcd_dvd_left _ _)
  have db : ((Nat.gcd a.natAbs b.natAbs : Nat) : Int) ∣ b := ndvd (Nat.gcd_dvd_right _ _)
  have hs : sgcd a b ≠ 0 ∧ (sgcd a b).natAbs < 2 ^ 8900 ∧ sgcd a b ∣ a ∧ sgcd a b ∣ b := by
    unfold sgcd
    split
    · exact ⟨by omega, by omega, Int.neg_dvd.mpr da, Int.neg_dvd.mpr db⟩
    · exact ⟨by omega, by omega, da, db⟩
  obtain ⟨h1, h2, h3, h4⟩ := hs
  have fin : ∀ p, H1 p = none → Q (.ref p) (upd H1 p (.tup [.int (a.fdiv (sgcd a b)), .int (b.fdiv (sgcd a b))])) := fun p hp => by
    refine q p _ (s1.trans (same_new hp _)) (Same.free s1 hp) ?_
    rw [upd_same, Int.fdiv_eq_ediv_of_dvd h3, Int.fdiv_eq_ediv_of_dvd h4]
  by_cases hb : b < 0
  · have e : sgcd a b = -((Nat.gcd a.natAbs b.natAbs : Nat) : Int) := by unfold sgcd; rw [if_pos hb]
    refine ⟨_, rfl, _, _, rfl, rfl, _, rfl, ?_⟩
    rw [decide_eq_true hb]
    rw [e] at h1 h2 fin
    exact iteT ⟨_, rfl, _, rfl, _, rfl, _, rfl, _, _, rfl, rfl, cdivx h1 h2, _, rfl, _, rfl, _, _, rfl, rfl, cdivx h1 h2, (by show 2 ≤ sizeLine; decide), fin⟩
  · have e : sgcd a b = ((Nat.gcd a.natAbs b.natAbs : Nat) : Int) := by unfold sgcd; rw [if_neg hb]
    refine ⟨_, rfl, _, _, rfl, rfl, _, rfl, ?_⟩
    rw [decide_eq_false hb]
    rw [e] at h1 h2 fin
    exact iteF ⟨_, rfl, _, rfl, _, _, rfl, rfl, cdivx h1 h2, _, rfl, _, rfl, _, _, rfl, rfl, cdivx h1 h2, (by show 2 ≤ sizeLine; decide), fin⟩
theorem ok_law_lighter (c_law_gcd : Cal P w K mg base CX0 k "_law_gcd" ["_law_one", "_law_other"] spGcd) (d : Def K mg "_law_lighter" s_law_lighter ["_law_row"]) : Cal P w K mg base CX0 (k + 1) "_law_lighter" ["_law_row"] spLighter := by
  refine d.ok sc_law_lighter (fun vs H Q E h => ?_) (fun fa cdv A outer s H vs Q E hr h => ?_)
  · obtain ⟨_, _, _, rfl, _⟩ := h; rfl
  obtain ⟨a, f, n, rfl, ea, hn, hf, q0, q1⟩ := h
  refine ⟨_, (pss_cons (ps_set (i := 1) sc_law_lighter.nd rfl (Or.inr rfl) pe_int)
      (pss_cons (ps_for PassesOwn.never rfl (pi_list (pv 0)) (pg_name (i := 2) sc_law_lighter.nd rfl (Or.inl rfl)) (pss_one (ps_set (i := 1) sc_law_lighter.nd rfl (Or.inr rfl) (pe_cal c_law_gcd hr (by rfl) (pa_cons (pv 1) (pa_cons (pv 2) pa_nil))))))
      (pss_one (ps_ret (pe_ifExp (pt_cmpR op_eq (pv 1) pe_int (nomark _)) (pv 0) (pe_lc (own := [("_law_one", 2)]) (g := gName 2) (tt := tYes) rfl sc_law_lighter.nd (pi_list (pv 0)) (blkOk_by (N := ["_law_row", "_law_shared", "_law_one"]) (sc := defScope s_law_lighter) (by decide +kernel)) (fun _ _ _ _ _ => (pg_name (i := 2) sc_law_lighter.nd rfl (Or.inl rfl))) (fun _ _ _ _ _ => pts_nil) (fun _ _ _ _ _ => (pe_op op_fdivX (pv 2) (pv 1))))))))), ?_⟩
  refine ⟨_, rfl, a, rfl, ⟨_, .of ea⟩, ?_⟩
  refine for_list (xs := rowV f n) (fun i σ' H' => Same H H' ∧ ∃ y : Option V, σ' = [some (.ref a), some (.int ((gcN f i : Nat) : Int)), y]) ⟨Same.refl _, none, rfl⟩ (fun i σ' H' _ hh => .of (hh.1 _ _ ea)) (fun i x σ' H' ex hh => ?_) (fun σ' H' hh => ?_)
  · obtain ⟨s', y, rfl⟩ := hh
    obtain ⟨hi, rfl⟩ := rowV_of ex
    refine ⟨_, rfl, _, rfl, _, _, rfl, fun H2 s2 => ⟨s'.trans s2, some (.int (f i)), ?_⟩⟩
    rw [Int.natAbs_natCast]
    rfl
  · obtain ⟨s', y, rfl⟩ := hh
    rw [rowV_len]
    have ea' := s' _ _ ea
    refine ⟨_, rfl, rfl, _, rfl, iteB (fun e => ?_) (fun e => ?_)⟩
    · have z := decI (A := True) e
      exact ⟨_, rfl, q0 (by omega) H' s'⟩
    · have z := decI0 e
      have z' : gcN f n ≠ 0 := fun h => z (by rw [h]; rfl)
      have gl := gcN_le (f := f) (n := n) hf (by exact Nat.pow_pos (by decide))
      refine ⟨_, rfl, a, rfl, ⟨_, .of ea'⟩, lc_valW (f := fun j => .int (f j / ((gcN f n : Nat) : Int))) (p := fun _ => true) walk_list (fun _ _ _ _ h => h) (fun G sG => .of (sG _ _ ea')) (by rw [rowV_len]; omega) (fun _ => rfl) (fun j x G hj ex sG R hR => hR G (Same.refl G)) (fun j x G hj ex hp sG R hR => ?_) (fun D G sG nD eD => ?_)⟩
      · obtain ⟨hj', rfl⟩ := rowV_of ex
        refine ⟨_, rfl, _, rfl, _, _, rfl, rfl, cdivx (by omega) (by rw [Int.natAbs_natCast]; exact gl), ?_⟩
        show R (V.int ((f j).fdiv ((gcN f n : Nat) : Int))) G
        rw [Int.fdiv_eq_ediv_of_dvd (gcN_dvd hj')]
        exact hR G (Same.refl G)
      · rw [filt_all, rowV_len] at eD
        exact q1 z' D G (s'.trans sG) (Same.free s' nD) eD
end
end KL
end
section
set_option maxHeartbeats 1000000
namespace KL
open PySem PySem.Spec PyProof.Rows L2
theorem shL_row (ss : List Th) (n : Nat) (a : Int) : shL ss n a = rowV (fun j => if j < n then shS ss j else a) (n + 1) := by
  refine rowV_ext (shL_len _ _ _) fun j hj => ?_
  by_cases h : j < n
  · rw [shL_get h, if_pos h]
  · rw [show j = n by omega, shL_last, if_neg (by omega)]
theorem frac_at {Z : Zone} {H : Hp} {f : Th} {v : V} (h : At Z H f v) (hf : fracB f = true) : ∃ q, v = .ref q ∧ H q = some (.tup [.int (topI f), .int (botI f)]) := by
  have e := (fracB_is hf).1
  rw [e] at h
  obtain ⟨p, u, w', rfl, ep, ha, hb⟩ := h.pair
  cases (show u = _ from ha)
  cases (show w' = _ from hb)
  exact ⟨p, rfl, ep⟩
theorem bal_iff {n i : Nat} {a t : Nat → Int} {L e : Int} {q : Nat → Int} (hi : i < n) (h : ∀ j, j < n → q j = (if j = i then 2 ^ 60 else 0) - a j) (hn : q n = e) :
    (sumN (n + 1) fun j => (if j < n then a j else e) * (if j < n then t j else L)) = t i * 2 ^ (60 : Int).toNat ↔ Lf n t L q = 0 := by
  have e1 : (sumN (n + 1) fun j => (if j < n then a j else e) * (if j < n then t j else L)) = sumN n (fun j => a j * t j) + e * L := by
    rw [sumN, if_neg (by omega), if_neg (by omega)]
    rw [sumN_congr (g := fun j => a j * t j) fun j hj => by rw [if_pos hj, if_pos hj]]
  have e2 : Lf n t L q = t i * 2 ^ 60 - sumN n (fun j => a j * t j) - L * e := by
    unfold Lf
    rw [hn, sumN_congr (g := fun j => (if j = i then t i * 2 ^ 60 else 0) + - (a j * t j)) fun j hj => by
      rw [h j hj]
      by_cases x : j = i
      · rw [if_pos x, if_pos x, x]; grind
      · rw [if_neg x, if_neg x]; grind]
    rw [sumN_add, sumN_neg, sumN_one hi fun j hj ne => if_neg ne, if_pos rfl]
    omega
  rw [e1, e2, show (60 : Int).toNat = 60 from rfl, Int.mul_comm e L]
  omega
section
variable {P : Program} {w : World} {K : PySem.W.Frag} {mg : Str → Option Value} {base : Heap} {k : Nat} {t1 t2 t3 : Tok}
end
end KL
end
section
set_option maxHeartbeats 1000000
namespace KL
open PySem PySem.Spec PyProof.Rows L2
theorem Lf_scale {n : Nat} {X : Nat → Int} {D c : Int} (x : Nat → Int) : Lf n (fun j => c * X j) (c * D) x = c * Lf n X D x := by
  unfold Lf
  rw [sumN_congr (g := fun j => c * (x j * X j)) fun j _ => by grind, sumN_mul]
  grind
theorem Lf_congr {n : Nat} {X Y : Nat → Int} {D : Int} {x : Nat → Int} (h : ∀ j, j < n → X j = Y j) : Lf n X D x = Lf n Y D x := by
  unfold Lf
  rw [sumN_congr fun j hj => by rw [h j hj]]
theorem trimL_len {z : Int} {rows : List Th} (h : keep rows ≠ []) : (trimL z rows).length = (keep rows).length := by
  unfold trimL
  rw [if_neg h, List.length_map]
theorem trim_lvE {z : Int} {rows : List Th} (ok : MOk z rows) (h : keep rows ≠ []) : ∀ s, s < (trimL z rows).length → lvE (trimL z rows) s := fun s hs => by
  have e := keep_trim ok h
  have m : s ∈ keep (trimL z rows) := by rw [e]; exact List.mem_range.mpr (by rw [trimL_len h] at hs; exact hs)
  exact (mem_keep.mp m).2.2
/-- sums from nought on that solve the equations: all pivots are above nought -/
theorem sol_Pos {z : Int} {rows : List Th} (ok : MOk z rows) {X : Nat → Int} {D : Int} (hD : 0 < D) (hX : ∀ q, q < (trimL z rows).length → 0 ≤ X q) (h : ∀ t, t < (trimL z rows).length → Lf (trimL z rows).length X D (eqr (trimL z rows) t) = 0) : PosR (trimL z rows) := by
  by_cases hk : keep rows = []
  · have : trimL z rows = [bareRow z] := by unfold trimL; rw [if_pos hk]
    rw [this]
    exact bare_pos z
  · exact piv_pos (eqr_sg _) (eqr_live (trimL_ok ok) (trim_lvE ok hk)) (eqr_id _) hD hX h _ (Nat.le_refl _)
abbrev wosL (rows : List Th) : List Th := (List.range rows.length).map fun i => frT (Yk (eqr rows) rows.length i rows.length) (dk (eqr rows) rows.length)
theorem low_parts {a b : Int} (hb : 0 < b) : lowT a b * ((Nat.gcd a.natAbs b.natAbs : Nat) : Int) = a ∧ (b / ((Nat.gcd a.natAbs b.natAbs : Nat) : Int)) * ((Nat.gcd a.natAbs b.natAbs : Nat) : Int) = b ∧ 0 < b / ((Nat.gcd a.natAbs b.natAbs : Nat) : Int) :=
  ⟨Int.ediv_mul_cancel (ndvd (Nat.gcd_dvd_left _ _)), Int.ediv_mul_cancel (ndvd (Nat.gcd_dvd_right _ _)), Int.ediv_pos_of_pos_of_dvd hb (by omega) (ndvd (Nat.gcd_dvd_right _ _))⟩
theorem frT_frac {a b : Int} (ha : 0 ≤ a) (hb : 0 < b) : fracB (frT a b) = true := by
  obtain ⟨g, a', b', eg, g0, ea, eb, cp⟩ := gcd_parts (a := a) (b := b) (by omega)
  have e1 : lowT a b = a' := by unfold lowT; rw [← eg, ea]; exact Int.mul_ediv_cancel_left _ (by omega)
  have e2 : b / ((Nat.gcd a.natAbs b.natAbs : Nat) : Int) = b' := by rw [← eg]; conv => lhs; rw [eb]
                                                                     exact Int.mul_ediv_cancel_left _ (by omega)
  have p2 := (low_parts (a := a) hb).2.2
  rw [e2] at p2
  show fracB (.tup [.int (lowT a b), .int (b / ((Nat.gcd a.natAbs b.natAbs : Nat) : Int))]) = true
  rw [e1, e2]
  have p1 : 0 ≤ a' := by
    refine Classical.byContradiction fun c => ?_
    have : g * a' < 0 := Int.mul_neg_of_pos_of_neg g0 (by omega)
    omega
  show (decide (0 ≤ a') && (decide (1 ≤ b') && decide (Nat.gcd a'.natAbs b'.natAbs = 1))) = true
  rw [decide_eq_true p1, decide_eq_true (show 1 ≤ b' by omega), decide_eq_true (show Nat.gcd a'.natAbs b'.natAbs = 1 from cp)]
  rfl
theorem wos_nn {rows : List Th} (hp : PosR rows) {q : Nat} (hq : q < rows.length) : 0 ≤ Yk (eqr rows) rows.length q rows.length := sol_nonneg (eqr_sg rows) hp hq
theorem wos_get {rows : List Th} {j : Nat} (h : j < rows.length) : ((wosL rows)[j]?).getD .non = frT (Yk (eqr rows) rows.length j rows.length) (dk (eqr rows) rows.length) := by
  rw [List.getElem?_map, List.getElem?_range h]; rfl
theorem wosL_len (rows : List Th) : (wosL rows).length = rows.length := by rw [List.length_map, List.length_range]
theorem wos_frac {rows : List Th} (hp : PosR rows) : ∀ f ∈ wosL rows, fracB f = true := fun f m => by
  obtain ⟨i, mi, rfl⟩ := List.mem_map.mp m
  exact frT_frac (wos_nn hp (List.mem_range.mp mi)) (hp _ (Nat.le_refl _))
theorem tp_nn {fs : List Th} (h : ∀ f ∈ fs, fracB f = true) {j : Nat} (hj : j < fs.length) : 0 ≤ tpI fs j := by
  have m : (fs[j]?).getD .non ∈ fs := by rw [List.getElem?_eq_getElem hj]; exact List.getElem_mem _
  obtain ⟨_, a, b, _⟩ := fracB_is (h _ m)
  exact Int.mul_nonneg a (Int.ediv_nonneg (Int.natCast_nonneg _) (by omega))
theorem tp_mul {fs : List Th} (h : ∀ f ∈ fs, fracB f = true) {j : Nat} (hj : j < fs.length) : botI ((fs[j]?).getD .non) * ((lcmN fs fs.length : Nat) / botI ((fs[j]?).getD .non)) = ((lcmN fs fs.length : Nat) : Int) := by
  have := bot_dvd (fs := fs) hj
  exact Int.mul_ediv_cancel' (Int.natAbs_dvd_natAbs.mp (by rw [Int.natAbs_natCast]; exact this))
theorem bal_wos {z : Int} {rows : List Th} (ok : MOk z rows) {fs : List Th} (hB : ∀ f ∈ fs, fracB f = true) (lf : fs.length = (trimL z rows).length) : Bal (trimL z rows) fs ↔ PosR (trimL z rows) ∧ fs = wosL (trimL z rows) := by
  have L0 : (0 : Int) < ((lcmN fs fs.length : Nat) : Int) := by have := lcmN_pos hB _ (Nat.le_refl _); omega
  constructor
  · intro hb
    have hp := sol_Pos ok L0 (fun q hq => tp_nn hB (by omega)) hb
    refine ⟨hp, ?_⟩
    refine List.ext_getElem? fun j => ?_
    by_cases hj : j < fs.length
    · have m : (fs[j]?).getD .non ∈ fs := by rw [List.getElem?_eq_getElem hj]; exact List.getElem_mem _
      obtain ⟨e, a, b, cp⟩ := fracB_is (hB _ m)
      have sl := one_sol hb (q := j) (by omega)
      have d0 := hp _ (Nat.le_refl _)
      have tm := tp_mul hB hj
      unfold tpI at sl
      have eg : fs[j]? = some ((fs[j]?).getD .non) := by rw [List.getElem?_eq_getElem hj]; rfl
      rw [eg, List.getElem?_map, List.getElem?_range (by omega)]
      generalize (fs[j]?).getD .non = f at *
      show some f = some (frT _ _)
      rw [e]
      have k0 : ((lcmN fs fs.length : Nat) : Int) / botI f ≠ 0 := fun h => by rw [h, Int.mul_zero] at tm; omega
      have x : botI f * Yk (eqr (trimL z rows)) (trimL z rows).length j (trimL z rows).length = dk (eqr (trimL z rows)) (trimL z rows).length * topI f := by
        have : (((lcmN fs fs.length : Nat) : Int) / botI f) * (botI f * Yk (eqr (trimL z rows)) (trimL z rows).length j (trimL z rows).length) = (((lcmN fs fs.length : Nat) : Int) / botI f) * (dk (eqr (trimL z rows)) (trimL z rows).length * topI f) := by
          rw [← Int.mul_assoc, Int.mul_comm (((lcmN fs fs.length : Nat) : Int) / botI f) (botI f), tm, ← sl]
          grind
        exact Int.eq_of_mul_eq_mul_left k0 this
      obtain ⟨h1, h2, _⟩ := low_eq (a := Yk (eqr (trimL z rows)) (trimL z rows).length j (trimL z rows).length) (b := dk (eqr (trimL z rows)) (trimL z rows).length) (c := topI f) (e := botI f) (s := 1) d0 (by omega) x (by rw [if_neg (by omega), cp]; rfl)
      rw [Int.ediv_one] at h1 h2
      rw [h1, h2]; rfl
    · rw [List.getElem?_eq_none (by omega), List.getElem?_eq_none (by rw [wosL_len]; omega)]
  · rintro ⟨hp, rfl⟩
    intro s hs
    have d0 := hp _ (Nat.le_refl _)
    have ts := the_sol (r := eqr (trimL z rows)) (n := (trimL z rows).length) (fun m hm => by have := hp m hm; omega) hs
    have e1 := Lf_scale (n := (trimL z rows).length) (X := fun q => Yk (eqr (trimL z rows)) (trimL z rows).length q (trimL z rows).length) (D := dk (eqr (trimL z rows)) (trimL z rows).length) (c := ((lcmN (wosL (trimL z rows)) (wosL (trimL z rows)).length : Nat) : Int)) (eqr (trimL z rows) s)
    have e2 := Lf_scale (n := (trimL z rows).length) (X := tpI (wosL (trimL z rows))) (D := ((lcmN (wosL (trimL z rows)) (wosL (trimL z rows)).length : Nat) : Int)) (c := dk (eqr (trimL z rows)) (trimL z rows).length) (eqr (trimL z rows) s)
    rw [ts, Int.mul_zero] at e1
    have e3 : Lf (trimL z rows).length (fun j => dk (eqr (trimL z rows)) (trimL z rows).length * tpI (wosL (trimL z rows)) j) (dk (eqr (trimL z rows)) (trimL z rows).length * ((lcmN (wosL (trimL z rows)) (wosL (trimL z rows)).length : Nat) : Int)) (eqr (trimL z rows) s) = 0 := by
      rw [← e1, Int.mul_comm (dk _ _)]
      refine Lf_congr fun j hj => ?_
      have tm := tp_mul hB (j := j) (by rw [wosL_len]; exact hj)
      unfold tpI
      rw [wos_get hj] at tm ⊢
      obtain ⟨p1, p2, p3⟩ := low_parts (a := Yk (eqr (trimL z rows)) (trimL z rows).length j (trimL z rows).length) d0
      have t1 : topI (frT (Yk (eqr (trimL z rows)) (trimL z rows).length j (trimL z rows).length) (dk (eqr (trimL z rows)) (trimL z rows).length)) = lowT (Yk (eqr (trimL z rows)) (trimL z rows).length j (trimL z rows).length) (dk (eqr (trimL z rows)) (trimL z rows).length) := rfl
      have t2 : botI (frT (Yk (eqr (trimL z rows)) (trimL z rows).length j (trimL z rows).length) (dk (eqr (trimL z rows)) (trimL z rows).length)) = dk (eqr (trimL z rows)) (trimL z rows).length / ((Nat.gcd (Yk (eqr (trimL z rows)) (trimL z rows).length j (trimL z rows).length).natAbs (dk (eqr (trimL z rows)) (trimL z rows).length).natAbs : Nat) : Int) := rfl
      rw [t1, t2]
      rw [t2] at tm
      generalize lowT (Yk (eqr (trimL z rows)) (trimL z rows).length j (trimL z rows).length) (dk (eqr (trimL z rows)) (trimL z rows).length) = A at *
      generalize dk (eqr (trimL z rows)) (trimL z rows).length / ((Nat.gcd (Yk (eqr (trimL z rows)) (trimL z rows).length j (trimL z rows).length).natAbs (dk (eqr (trimL z rows)) (trimL z rows).length).natAbs : Nat) : Int) = B at *
      generalize ((Nat.gcd (Yk (eqr (trimL z rows)) (trimL z rows).length j (trimL z rows).length).natAbs (dk (eqr (trimL z rows)) (trimL z rows).length).natAbs : Nat) : Int) = G at *
      generalize ((lcmN (wosL (trimL z rows)) (wosL (trimL z rows)).length : Nat) : Int) = L at *
      rw [← p1, ← p2]
      generalize L / B = C at *
      rw [← tm]
      grind
    rw [e3] at e2
    rcases Int.mul_eq_zero.mp e2.symm with h | h
    · omega
    · exact h
end KL
end
section
set_option maxHeartbeats 1000000
namespace KL
open PySem PySem.Spec PyProof.Rows L2
/-! ### texts, and tuples put together exactly -/
def Lets (z : Int) (ls : List Th) : Prop := ∀ l ∈ ls, ∃ i, l = .int i ∧ 0 ≤ i ∧ i < z
theorem Lets.nil (z : Int) : Lets z [] := fun l m => nomatch m
theorem Lets.app {z : Int} {ls ks : List Th} (h : Lets z ls) (k : Lets z ks) : Lets z (ls ++ ks) := fun l m => (List.mem_append.mp m).elim (h l) (k l)
theorem Lets.one {z i : Int} (h0 : 0 ≤ i) (h1 : i < z) : Lets z [.int i] := fun l m => ⟨i, List.mem_singleton.mp m, h0, h1⟩
def rCatX (K : PySem.W.Frag) : R2 := fun x y H Q => ∃ (Z : Zone) (ds es : List Th), At Z H (.tup ds) x ∧ At Z H (.tup es) y ∧ (∀ a, Z a → Trk H a) ∧ ds.length + es.length ≤ 1000000 ∧ ∀ v H', Same H H' → At Z H' (.tup (ds ++ es)) v → Q v H'
section
variable {X : Cx}
theorem op_catX : OpR X (binaryOp .Add) (rCatX X.K) := by
  intro pins s σ H x y v u Q I rx ry h
  refine op_catA pins s σ H x y v u Q I rx ry ?_
  obtain ⟨Z, ds, es, h1, h2, hZ, hz, q⟩ := h
  obtain ⟨a, vs, rfl, na, e1, a1⟩ := id h1
  obtain ⟨b, us, rfl, nb, e2, a2⟩ := id h2
  refine ⟨a, b, vs, us, rfl, rfl, .of e1, .of e2, by rw [a1.len, a2.len, sizeLine_eq]; omega, fun e => ?_, fun _ e => ?_, fun _ _ p hp => ?_⟩
  · have : ds = [] := List.eq_nil_of_length_eq_zero (by rw [← a1.len, e]; rfl)
    have q' := q (.ref b) H (Same.refl H)
    rw [this, List.nil_append] at q'
    exact q' h2
  · have : es = [] := List.eq_nil_of_length_eq_zero (by rw [← a2.len, e]; rfl)
    have q' := q (.ref a) H (Same.refl H)
    rw [this, List.append_nil] at q'
    exact q' h1
  · have sp := same_new hp (.tup (vs ++ us))
    exact q _ _ sp ⟨p, _, rfl, fun t => hZ p t hp, upd_same, (a1.append a2).same sp⟩
end
def spWay : Sp := fun vs H Q _ => ∃ (Z : Zone) (pr ed : Addr) (us : List V) (z : Int) (rows : List Th) (b : Nat) (es : List Nat), vs = [.ref pr, .int (b : Nat), .ref ed] ∧ H pr = some (.tup us) ∧ AtAll Z H rows us ∧ MOk z rows ∧ b < rows.length ∧ H ed = some (.lst (es.map nV)) ∧
  (∀ (v : V) (H' : Hp) (ls : List Th) (e : Nat), Same H H' → e ∈ es → Led rows b ls e → Lets z ls → ls.length ≤ 1000 → At (Trk H) H' (.tup ls) v → Q v H') ∧ ((∀ e ∈ es, ¬ Rc rows b e) → ∀ H', Same H H' → Q .non H')
/-- the states found and the texts to them -/
structure WD (z : Int) (rows : List Th) (b : Nat) (Z : Zone) (H : Hp) (left : List Nat) (kvs : List (Key × V)) : Prop where
  nd : left.Nodup
  mb : b ∈ left
  snd : ∀ x ∈ left, Rc rows b x
  kl : kvs.length = left.length
  txt : ∀ x : Nat, x ∈ left → ∃ v ls, valV kvs (Sum.inl (x : Int)) = some v ∧ Led rows b ls x ∧ Lets z ls ∧ ls.length ≤ left.length ∧ At Z H (.tup ls) v
  non : ∀ x : Nat, x ∉ left → valV kvs (Sum.inl (x : Int)) = none
theorem WD.sb {z : Int} {rows : List Th} {b : Nat} {Z : Zone} {H H' : Hp} {left : List Nat} {kvs : List (Key × V)} (h : WD z rows b Z H left kvs) (s : SB Z H H') : WD z rows b Z H' left kvs :=
  ⟨h.nd, h.mb, h.snd, h.kl, fun x m => let ⟨v, ls, e1, e2, e3, e4, e5⟩ := h.txt x m; ⟨v, ls, e1, e2, e3, e4, e5.sb s⟩, h.non⟩
theorem WD.len {z : Int} {rows : List Th} {b : Nat} {Z : Zone} {H : Hp} {left : List Nat} {kvs : List (Key × V)} (h : WD z rows b Z H left kvs) (ok : MOk z rows) (hb : b < rows.length) : left.length ≤ rows.length := nd_len h.nd fun x m => ok.rc_lt hb (h.snd x m)
theorem WD.add {z : Int} {rows : List Th} {b x l t : Nat} {m : Int} {Z : Zone} {H : Hp} {left : List Nat} {kvs : List (Key × V)} (h : WD z rows b Z H left kvs) (mx : x ∈ left) (e : stepAt rows x l = .tup [.int m, .int (t : Int)]) (hl : (l : Int) < z) (nt : t ∉ left)
    {v : V} {ls : List Th} (hd : Led rows b ls x) (hL : Lets z ls) (hn : ls.length ≤ left.length) (ha : At Z H (.tup (ls ++ [.int (l : Nat)])) v) : WD z rows b Z H (left ++ [t]) (putK kvs (Sum.inl (t : Int)) v) where
  nd := List.nodup_append.mpr ⟨h.nd, by simp, fun a ma c mc e => by
    rw [List.mem_singleton.mp mc] at e
    subst e
    exact nt ma⟩
  mb := List.mem_append_left _ h.mb
  snd := fun y my => by
    rcases List.mem_append.mp my with my | my
    · exact h.snd y my
    · rw [List.mem_singleton.mp my]
      have := step_nx e
      rw [Int.toNat_natCast] at this
      exact .step (h.snd x mx) this
  kl := by rw [putK_new v (h.non t nt), List.length_append, List.length_append, h.kl]; rfl
  txt := fun y my => by
    rw [valV_put]
    rcases List.mem_append.mp my with my | my
    · have ne : y ≠ t := fun e => nt (e ▸ my)
      rw [if_neg (fun h => ne (by injection h with h; omega))]
      obtain ⟨v, ls, e1, e2, e3, e4, e5⟩ := h.txt y my
      exact ⟨v, ls, e1, e2, e3, by rw [List.length_append]; omega, e5⟩
    · have et := List.mem_singleton.mp my
      subst et
      rw [if_pos rfl]
      refine ⟨v, ls ++ [.int (l : Nat)], rfl, ?_, hL.app (Lets.one (by omega) hl), by rw [List.length_append, List.length_append, List.length_singleton, List.length_singleton]; omega, ha⟩
      have := hd.snoc e
      rwa [Int.toNat_natCast] at this
  non := fun y ny => by
    rw [valV_put]
    have ne : y ≠ t := fun e => ny (by rw [e]; simp)
    rw [if_neg (fun h => ne (by injection h with h; omega))]
    exact h.non y fun m => ny (List.mem_append_left _ m)
theorem inV_ns' (t : Nat) (fs : List Nat) : inV (nV t) (fs.map nV) = true ↔ t ∈ fs := by rw [inV_ns, decide_eq_true_eq]
section
variable {P : Program} {w : World} {K : PySem.W.Frag} {mg : Str → Option Value} {base : Heap} {k : Nat}
end
end KL
end
section
set_option maxHeartbeats 1000000
namespace KL
open PySem PySem.Spec PyProof.Rows L2
section
variable {X : Cx} {k : Nat} {x : Str} {ps : List Str} {sp : Sp} {e : Expr} {es : List Expr} {t : TA} {p pos : Pos}
/-- a call of a def that may raise, but doesn't -/
theorem pe_calL (C : Cal X.prog X.w X.K X.mg X.base (L2.CX X.prog X.w) k x ps sp) (hr : Room k X.A) (hg : Gl X x) (ha : PA X (e :: es) t) (hdb : (x == ("__debug__" : Str)) = false := by decide)
    (he : starEach (e :: es) X.env = (false, eval e X.env) :: starEach es X.env := by rfl) (hpl : (backTo pos (starEach es X.env)).any (·.1) = false := by rfl) :
    PE X (.Call (.Name x p) (e :: es) [] pos) (tCall sp [] E0 t) :=
  let ⟨_, _, F, m, kp, b⟩ := C.ex
  pe_call F hr hg m kp b .nil passL ha hdb he hpl
end
theorem shortL_of : ∀ {xs : List Th}, (∀ x ∈ xs, shortT x = true) → shortL xs = true
  | [], _ => rfl
  | x :: xs, h => by rw [shortL, h x List.mem_cons_self, shortL_of (fun y m => h y (List.mem_cons_of_mem _ m))]; rfl
theorem MOk.short {z : Int} {rows : List Th} (ok : MOk z rows) : shortT (.tup [.int z, .tup rows]) = true := by
  have hr : shortL rows = true := shortL_of fun r m => by
    obtain ⟨e, ss, rfl, h1, h2, h3⟩ := rowB_is (ok.r r m)
    have hs : shortL ss = true := shortL_of fun st m => by
      rcases h3 st m with rfl | ⟨a, b, rfl, _⟩ <;> rfl
    have he : shortT e = true := by rcases h1 with rfl | ⟨i, rfl, _⟩ <;> rfl
    have hz := ok.z8
    simp only [shortT, shortL, he, hs, List.length_cons, List.length_nil, Bool.and_true]
    rw [decide_eq_true (by omega : ss.length ≤ 1000000)]
    rfl
  have hn := ok.n30
  simp only [shortT, shortL, hr, List.length_cons, List.length_nil, Bool.and_true]
  rw [decide_eq_true (by omega : rows.length ≤ 1000000)]
  rfl
theorem Lets.short {z : Int} {ls : List Th} (h : Lets z ls) (hl : ls.length ≤ 1000000) : shortT (.tup ls) = true := by
  rw [shortT, decide_eq_true hl]
  exact shortL_of fun l m => by obtain ⟨i, rfl, _⟩ := h l m; rfl
theorem Lets.text {z : Int} {ls : List Th} (h : Lets z ls) : textB z (.tup ls) = true := textB_of h
/-- whatever the zone -/
theorem At.any {Z : Zone} {H : Hp} {t : Th} {v : V} (h : At Z H t v) : At (fun _ => False) H t v := h.less fun _ f => f.elim
/-- what length tells of a machine and a text of its letters -/
theorem use_length {CM CT : Addr} {H : Hp} {Q : VK} {E : XK} {Z Z' : Zone} {u v : V} {z : Int} {rows ls : List Th} (hu : At Z H (.tup [.int z, .tup rows]) u) (hv : At Z' H (.tup ls) v) (ok : MOk z rows) (hl : Lets z ls) (l4 : ls.length ≤ 1000000)
    (q : ∀ H', Same H H' → Q (optV (lenT rows ls)) H') : spLength CM CT [u, v] H Q E :=
  ⟨fun _ => False, u, v, _, _, rfl, hu.any, hv.any, ok.short, hl.short l4, fun z' rows' ls' e1 _ e2 _ H' s' => by
    injection e1 with e1; injection e1 with _ e1; injection e1 with e1 _; injection e1 with e1
    injection e2 with e2
    subst e1 e2
    exact q H' s', fun z' rows' e1 _ tb => by
    injection e1 with e1; injection e1 with e0 e1; injection e0 with e0
    subst e0
    exact absurd (tb.symm.trans hl.text) (by decide), fun mb => absurd (mb.symm.trans ok.mach) (by decide)⟩
def ShortT (z : Int) (i : Nat) (t : Th) : Prop := ∃ ls, t = .tup ls ∧ Lets z ls ∧ ls.length ≤ i
def spShort : Sp := fun vs H Q _ => ∃ (z : Int), vs = [.int z, .int 200] ∧ 1 ≤ z ∧ z ≤ 8 ∧ ∀ D us ts H', Same H H' → H D = none → H' D = some (.lst us) → AtAll (Trk H) H' ts us → ts.length ≤ 2000 → (∀ t ∈ ts, ShortT z 8 t) → Q (.ref D) H'
section
variable {P : Program} {w : World} {K : PySem.W.Frag} {mg : Str → Option Value} {base : Heap} {k : Nat}
end
end KL
end
section
set_option maxHeartbeats 4000000
set_option exponentiation.threshold 2000
namespace KL
open PySem PySem.Spec PyProof.Rows L2
/-! ### things as the library's data -/
mutual
def py : Th → PyData
  | .non => .none
  | .bl b => .bool b
  | .int i => .int i
  | .str x => .str x
  | .lst xs => .list (pyL xs)
  | .tup xs => .tuple (pyL xs)
  | .dic xs => .dict [(.str "a", .list (pyL xs)), (.int 1, .none)]
def pyL : List Th → List PyData
  | [] => []
  | x :: xs => py x :: pyL xs
end
mutual
theorem py_bulk : ∀ t : Th, (py t).bulk = bk t
  | .non => rfl
  | .bl _ => rfl
  | .int _ => rfl
  | .str _ => rfl
  | .lst xs => pyL_bulk xs
  | .tup xs => pyL_bulk xs
  | .dic xs => by
    have h := pyL_bulk xs
    show (1 + PyData.bulkAll (pyL xs) + 2 + (0 + 0 + 2 + 0)) = bkL xs + 5
    omega
theorem pyL_bulk : ∀ ts : List Th, PyData.bulkAll (pyL ts) = bkL ts
  | [] => rfl
  | x :: xs => by
    show (py x).bulk + 1 + PyData.bulkAll (pyL xs) = bk x + 1 + bkL xs
    rw [py_bulk x, pyL_bulk xs]
end
theorem int_short {i : Int} {M : Nat} (hM : M < 10 ^ 30) (h : i.natAbs ≤ M) : (PyData.shown (.int i)).length ≤ 34 := by
  have e := int_text_length_le10 (a := i) (k := 30) (by decide) (show i.natAbs < 10 ^ 30 by omega)
  show (Str.ofString (toString i)).length ≤ 34
  rw [PySem.ofString_length]
  omega
mutual
theorem py_short {M : Nat} (hM : M < 10 ^ 30) : ∀ t : Th, lf M t = true → (py t).leavesShort 34 = true
  | .non, _ => by simp [py, PyData.leavesShort]
  | .bl _, _ => by simp [py, PyData.leavesShort]
  | .int i, h => by
    rw [lf, decide_eq_true_eq] at h
    rw [py, PyData.leavesShort]
    exact decide_eq_true (int_short hM h)
  | .str x, h => by
    rw [lf, List.all_eq_true] at h
    rw [py, PyData.leavesShort, List.all_eq_true]
    intro c hc
    have h2 := of_decide_eq_true (h c hc)
    exact decide_eq_true (Nat.lt_of_lt_of_le h2 (by decide))
  | .lst xs, h => by rw [py, PyData.leavesShort]; exact pyL_short hM xs h
  | .tup xs, h => by rw [py, PyData.leavesShort]; exact pyL_short hM xs h
  | .dic xs, h => by
    have h2 := pyL_short hM xs h
    rw [py]
    simp only [PyData.leavesShort, PyData.leavesShortKv, h2, Bool.and_true, Bool.true_and]
    decide
theorem pyL_short {M : Nat} (hM : M < 10 ^ 30) : ∀ ts : List Th, lfL M ts = true → PyData.leavesShortAll 34 (pyL ts) = true
  | [], _ => by simp [pyL, PyData.leavesShortAll]
  | x :: xs, h => by
    rw [lfL, Bool.and_eq_true] at h
    rw [pyL, PyData.leavesShortAll, py_short hM x h.1, pyL_short hM xs h.2]
    rfl
end
mutual
theorem py_showable {M : Nat} (hM : M < 10 ^ 30) : ∀ t : Th, lf M t = true → (py t).showable = true
  | .non, _ => by simp [py, PyData.showable]
  | .bl _, _ => by simp [py, PyData.showable]
  | .str _, _ => by simp [py, PyData.showable]
  | .int i, h => by
    rw [lf, decide_eq_true_eq] at h
    rw [py, PyData.showable]
    refine decide_eq_true ?_
    by_cases h0 : i.natAbs = 0
    · rw [h0]; decide
    · exact (Nat.log2_lt h0).mpr (Nat.lt_of_lt_of_le (show i.natAbs < 10 ^ 30 by omega) (by
        have : (10 : Nat) ^ 30 ≤ 2 ^ 100 := by decide
        exact Nat.le_trans this (Nat.pow_le_pow_right (by decide) (by decide))))
  | .lst xs, h => by rw [py, PyData.showable]; exact pyL_showable hM xs h
  | .tup xs, h => by rw [py, PyData.showable]; exact pyL_showable hM xs h
  | .dic xs, h => by
    have h2 := pyL_showable hM xs h
    rw [py]
    simp only [PyData.showable, PyData.showableKv, h2, Bool.and_true, Bool.true_and]
    decide
theorem pyL_showable {M : Nat} (hM : M < 10 ^ 30) : ∀ ts : List Th, lfL M ts = true → PyData.showableAll (pyL ts) = true
  | [], _ => by simp [pyL, PyData.showableAll]
  | x :: xs, h => by
    rw [lfL, Bool.and_eq_true] at h
    rw [pyL, PyData.showableAll, py_showable hM x h.1, pyL_showable hM xs h.2]
    rfl
end
mutual
theorem py_depth : ∀ t : Th, (py t).depth ≤ dp t
  | .non => Nat.le_refl _
  | .bl _ => Nat.le_refl _
  | .int _ => Nat.le_refl _
  | .str _ => Nat.le_refl _
  | .lst xs => Nat.succ_le_succ (pyL_depth xs)
  | .tup xs => Nat.succ_le_succ (pyL_depth xs)
  | .dic xs => by
    have h := pyL_depth xs
    rw [py]
    simp only [PyData.depth, PyData.depthKv, dp]
    omega
theorem pyL_depth : ∀ ts : List Th, PyData.depthAll (pyL ts) ≤ dpL ts
  | [] => Nat.le_refl _
  | x :: xs => by
    have h1 := py_depth x
    have h2 := pyL_depth xs
    show max (py x).depth (PyData.depthAll (pyL xs)) ≤ max (dp x) (dpL xs)
    omega
end
section
variable {X : Cx} {pins : List (Addr × Obj)} {σ : L2.St} {H : Hp} {s : Shared}
theorem not_sys (I : Inv X pins σ H s) (hb : ∃ o, X.base.get? sysModules = some o) {a : Addr} {o : HO} (e : H a = some o) : a ≠ sysModules := fun z => by
  obtain ⟨ob, hb⟩ := hb
  have n := (I.bs sysModules ob hb).2
  rw [← z, e] at n
  cases n
theorem dic_entries {P : Program} {w : World} {l : Addr} {es : List DictEntry} {kv : List (Key × Value)} (k : KV ([(Sum.inr ("a" : Str), V.ref l), (Sum.inl (1 : Int), V.non)] : List (Key × V)) kv) (p : Pairs (mixKind P w) es kv) :
    ∃ d1 d2 t1 t2, es = [d1, d2] ∧ d1.key = .str "a" t1 ∧ d1.val = .ref l ∧ d2.key = .int 1 t2 ∧ d2.val = .none := by
  match kv, k with
  | [(k1, v1), (k2, v2)], .cons a1 (.cons a2 .nil) =>
    obtain ⟨b1, c1⟩ := a1
    obtain ⟨b2, c2⟩ := a2
    match es, p with
    | [d1, d2], .cons p1 q1 (.cons p2 q2 .nil) =>
      have p1' : keyIs k1 d1.key = true := p1
      have p2' : keyIs k2 d2.key = true := p2
      have b1' : Sum.inr ("a" : Str) = k1 := b1
      have b2' : Sum.inl (1 : Int) = k2 := b2
      subst b1' b2'
      rcases keyIs_shape p1' with ⟨i, t, e1, _⟩ | ⟨x, t1, e1, f1⟩
      · cases e1
      · rcases keyIs_shape p2' with ⟨i, t2, e2, f2⟩ | ⟨x, t, e2, _⟩
        · cases e1
          cases e2
          exact ⟨d1, d2, t1, t2, rfl, f1, q1.trans c1, f2, q2.trans c2⟩
        · cases e2
mutual
theorem At.reads (I : Inv X pins σ H s) (hb : ∃ o, X.base.get? sysModules = some o) {Z : Zone} : ∀ (t : Th) (v : V) (u : Value), At Z H t v → RelV v u → ∃ as, Reads s.heap u (py t) as ∧ sysModules ∉ as
  | .non, _, _, h, r => by
    cases h; cases r
    exact ⟨_, Reads.none, by simp⟩
  | .bl b, _, _, h, r => by
    cases h; cases r
    exact ⟨_, Reads.bool b, by simp⟩
  | .int i, _, _, h, r => by
    cases h
    obtain ⟨t, rfl⟩ := r
    exact ⟨_, Reads.int i t, by simp⟩
  | .str x, _, _, h, r => by
    cases h
    obtain ⟨t, rfl⟩ := r
    exact ⟨_, Reads.str x t, by simp⟩
  | .lst xs, _, _, h, r => by
    obtain ⟨a, vs, rfl, _, e, ha⟩ := h
    cases r
    obtain ⟨its, rv, ⟨o, n, ho, hc, _, hd⟩, _⟩ := I.list (SqL.of e)
    obtain ⟨as, hr, hn⟩ := AtAll.reads I hb xs vs its ha rv
    exact ⟨_, Reads.list ho hc hd hr, fun m => (List.mem_cons.mp m).elim (fun z => not_sys I hb e z.symm) hn⟩
  | .tup xs, _, _, h, r => by
    obtain ⟨a, vs, rfl, _, e, ha⟩ := h
    cases r
    obtain ⟨its, rv, ⟨o, ho, hc, n, hd⟩, _⟩ := I.tuple (SqT.of e)
    obtain ⟨as, hr, hn⟩ := AtAll.reads I hb xs vs its ha rv
    exact ⟨_, Reads.tuple ho hc hd hr, hn⟩
  | .dic xs, _, _, h, r => by
    obtain ⟨a, l, vs, rfl, _, _, e, el, ha⟩ := h
    cases r
    obtain ⟨its, rv, ⟨o, n, ho, hc, _, hd⟩, _⟩ := I.list (SqL.of el)
    obtain ⟨as, hr, hn⟩ := AtAll.reads I hb xs vs its ha rv
    obtain ⟨_, gs, ps, kv, od, es, ep, g1, g2, g3, g5, g4, g6⟩ := (show ObjOk X.prog X.w H s.heap a (.dK [(Sum.inr "a", .ref l), (Sum.inl 1, .non)]) from I.hok a _ e)
    obtain ⟨d1, d2, t1, t2, ee, e1, e2, e3, e4⟩ := dic_entries kv g4
    have na : sysModules ≠ a := fun z => not_sys I hb e z.symm
    have nl : sysModules ≠ l := fun z => not_sys I hb el z.symm
    refine ⟨_, Reads.dict (kvs := [(.str "a", .list (pyL xs)), (.int 1, .none)]) g1 g2.1 g3 (by rw [ee]; show ReadsAll s.heap [d1.key, d2.key] [.str "a", .int 1] _; rw [e1, e3]; exact ReadsAll.cons (Reads.str _ _) (ReadsAll.cons (Reads.int _ _) ReadsAll.nil))
      (by rw [ee]; show ReadsAll s.heap [d1.val, d2.val] [.list (pyL xs), .none] _; rw [e2, e4]; exact ReadsAll.cons (Reads.list ho hc hd hr) (ReadsAll.cons Reads.none ReadsAll.nil)), ?_⟩
    intro m
    simp only [List.nil_append, List.append_nil, List.cons_append, List.mem_cons] at m
    rcases m with z | z | z
    · exact na z
    · exact nl z
    · exact hn z
theorem AtAll.reads (I : Inv X pins σ H s) (hb : ∃ o, X.base.get? sysModules = some o) {Z : Zone} : ∀ (ts : List Th) (vs : List V) (us : List Value), AtAll Z H ts vs → Vals vs us → ∃ as, ReadsAll s.heap us (pyL ts) as ∧ sysModules ∉ as
  | [], _, _, h, r => by
    cases (show _ = [] from h)
    cases r
    exact ⟨_, ReadsAll.nil, by simp⟩
  | x :: xs, _, _, h, r => by
    obtain ⟨u, us, rfl, h1, h2⟩ := h
    cases r with
    | cons r1 r2 =>
      obtain ⟨as, q1, n1⟩ := At.reads I hb x _ _ h1 r1
      obtain ⟨bs, q2, n2⟩ := AtAll.reads I hb xs _ _ h2 r2
      exact ⟨_, ReadsAll.cons q1 q2, fun m => (List.mem_append.mp m).elim n1 n2⟩
end
/-- repr of a thing -/
theorem call_reprT (hg : X.A.guards = some []) (hu : X.A.units + 64 < cLine) (hb : ∃ o, X.base.get? sysModules = some o) :
    CallR X (.builtin "repr") (fun xs H Q => ∃ Z t v B M D, xs = [v] ∧ At Z H t v ∧ Gd B M D t ∧ B ≤ 400000 ∧ M < 10 ^ 30 ∧ D ≤ 60 ∧ Q (.str (py t).shown) H) := by
  intro pins s σ H xs us Q I r h
  obtain ⟨Z, t, v, B, M, D, rfl, h, g, hB, hM, hD, q⟩ := h
  obtain ⟨u, rfl, ru⟩ := vals1 r
  have sz : (py t).shown.length ≤ sizeLine := by
    have a1 := PyData.shown_le_bulk 34 (by decide) (py t) (py_short hM t g.m)
    rw [py_bulk] at a1
    have a2 := g.b
    rw [sizeLine_eq]
    have a3 : (34 + 2) * bk t ≤ 36 * 400000 := Nat.mul_le_mul (Nat.le_refl _) (by omega)
    omega
  have fin : ∀ tk, EP X pins σ Q (.str (py t).shown tk) { s with toks := tk + 1 } := fun tk => ⟨.str _, H, I.tok _, ⟨_, rfl⟩, q⟩
  have obj : ∀ a, u = .ref a → wpAny (model X.prog X.w) X.A (call (.builtin "repr") [u]) (EP X pins σ Q) X.xe s := fun a ea => by
    obtain ⟨as, hr, hn⟩ := At.reads I hb t v u h ru
    subst ea
    have dd := py_depth t
    have d2 := g.d
    exact repr_of_reads' hr (py_showable hM t g.m) (fun _ => hn) hg (by omega) (fun _ _ e => e) (fun h' tk1 tk2 kp => ⟨.str _, H, I.kept kp, ⟨_, rfl⟩, q⟩) sz
  cases t with
  | non =>
    cases h; cases ru
    exact PySem.P.repr_of_none (fin _)
  | bl b =>
    cases h; cases ru
    refine PySem.P.repr_of_bool ?_
    have f := fin s.toks
    rw [show (py (.bl b)).shown = (if b then ("True" : Str) else "False") by rw [py, PyData.shown]] at f
    exact f
  | int i =>
    cases h
    obtain ⟨tk, rfl⟩ := ru
    have m := g.m
    have f := fin s.toks
    rw [show (py (.int i)).shown = (toString i : String) by rw [py, PyData.shown]] at f
    exact PySem.P.repr_of_int (by
      have e := py_showable hM (.int i) m
      rw [py, PyData.showable] at e
      exact of_decide_eq_true e) f
  | str x =>
    cases h
    obtain ⟨tk, rfl⟩ := ru
    have f := fin s.toks
    rw [show (py (.str x)).shown = reprText x by rw [py, PyData.shown]] at f sz
    exact PySem.P.repr_of_str f sz
  | lst xs =>
    obtain ⟨a, vs, rfl, _⟩ := id h
    exact obj a ru
  | tup xs =>
    obtain ⟨a, vs, rfl, _⟩ := id h
    exact obj a ru
  | dic xs =>
    obtain ⟨a, l, vs, rfl, _⟩ := id h
    exact obj a ru
end
end KL
end
section
set_option maxHeartbeats 1000000
namespace KL
open PySem PySem.Spec PyProof.Rows L2
/-! ### things as data that are compared -/
theorem layL : ∀ {xs : List Th}, (∀ x ∈ xs, (py x).canLay0 = true) → PyData.canLayAll0 (pyL xs) = true
  | [], _ => by rw [pyL]; simp only [PyData.canLayAll0]
  | x :: xs, h => by
    rw [pyL]
    simp only [PyData.canLayAll0]
    rw [h x List.mem_cons_self, layL (fun y m => h y (List.mem_cons_of_mem _ m))]
    rfl
theorem lay_tup {xs : List Th} (h : ∀ x ∈ xs, (py x).canLay0 = true) : (py (.tup xs)).canLay0 = true := by
  rw [py]
  simp only [PyData.canLay0]
  exact layL h
theorem lay_int (i : Int) : (py (.int i)).canLay0 = true := by rw [py]; simp only [PyData.canLay0]
theorem lay_non : (py .non).canLay0 = true := by rw [py]; simp only [PyData.canLay0]
theorem StepIs.lay {n : Int} {st : Th} (h : StepIs n st) : (py st).canLay0 = true := by
  rcases h with rfl | ⟨m, s, rfl, _⟩
  · exact lay_non
  · exact lay_tup fun x m => by
      rcases List.mem_cons.mp m with rfl | m
      · exact lay_int _
      · rw [List.mem_singleton.mp m]; exact lay_int _
theorem MOk.lay {z : Int} {rows : List Th} (ok : MOk z rows) : (py (.tup [.int z, .tup rows])).canLay0 = true :=
  lay_tup fun x m => by
    rcases List.mem_cons.mp m with rfl | m
    · exact lay_int _
    · rw [List.mem_singleton.mp m]
      refine lay_tup fun r mr => ?_
      obtain ⟨e, ss, rfl, h1, h2, h3⟩ := rowB_is (ok.r r mr)
      refine lay_tup fun x m => ?_
      rcases List.mem_cons.mp m with rfl | m
      · rcases h1 with rfl | ⟨i, rfl, _⟩
        · exact lay_non
        · exact lay_int _
      · rw [List.mem_singleton.mp m]
        exact lay_tup fun st mst => (h3 st mst).lay
theorem StepIs.gd {st : Th} (h : StepIs 30 st) : Gd 2 60 1 st := by
  rcases h with rfl | ⟨m, s, rfl, m0, m1, s0, s1⟩
  · exact (Gd.non (M := 60)).weak ⟨by omega, by omega, by omega⟩
  · exact (Gd.tup (GdL.cons (Gd.int (M := 60) (by omega)) (GdL.cons (Gd.int (by omega)) GdL.nil))).weak ⟨by omega, by omega, by omega⟩
theorem StepIs.up {n m : Int} {st : Th} (h : StepIs n st) (l : n ≤ m) : StepIs m st := by
  rcases h with rfl | ⟨a, s, rfl, m0, m1, s0, s1⟩
  · exact .inl rfl
  · exact .inr ⟨a, s, rfl, m0, m1, s0, by omega⟩
theorem MOk.gd {z : Int} {rows : List Th} (ok : MOk z rows) : Gd 1000 60 5 (.tup [.int z, .tup rows]) := by
  have n30 := ok.n30
  have z1 := ok.z1
  have z8 := ok.z8
  have gR : ∀ r ∈ rows, Gd 26 60 3 r := fun r mr => by
    obtain ⟨e, ss, rfl, h1, h2, h3⟩ := rowB_is (ok.r r mr)
    have gS : GdL (8 * (2 + 1)) 60 1 ss := GdL.all (fun st ms => ((h3 st ms).up (by omega)).gd) (by omega)
    have gE : Gd 0 60 0 e := by
      rcases h1 with rfl | ⟨i, rfl, i1, i2⟩
      · exact Gd.non
      · exact Gd.int (by omega)
    exact (Gd.tup (GdL.cons (gE.mono (Nat.le_refl _) (Nat.le_refl _) (by omega : 0 ≤ 2)) (GdL.cons (Gd.tup gS) GdL.nil))).weak ⟨by omega, by omega, by omega⟩
  have g1 : GdL (30 * (26 + 1)) 60 3 rows := GdL.all gR n30
  exact (Gd.tup (GdL.cons ((Gd.int (M := 60) (by omega)).mono (Nat.le_refl _) (Nat.le_refl _) (by omega : 0 ≤ 4)) (GdL.cons (Gd.tup g1) GdL.nil))).weak ⟨by omega, by omega, by omega⟩
mutual
theorem At.dp {K : PySem.W.Frag} {Z : Zone} {H : Hp} : ∀ (t : Th) (v : V), At Z H t v → (py t).canLay0 = true → Dp K H v (py t)
  | .non, _, h, _ => by cases h; exact .non
  | .bl b, _, h, _ => by cases h; exact .bl b
  | .int i, _, h, _ => by cases h; exact .int i
  | .str x, _, h, _ => by cases h; exact .str x
  | .lst xs, _, h, l => by
    obtain ⟨a, vs, rfl, _, e, ha⟩ := h
    rw [py] at l ⊢
    simp only [PyData.canLay0] at l
    exact .lst (.of e) (AtAll.dp xs vs ha l)
  | .tup xs, _, h, l => by
    obtain ⟨a, vs, rfl, _, e, ha⟩ := h
    rw [py] at l ⊢
    simp only [PyData.canLay0] at l
    exact .tup (.of e) (AtAll.dp xs vs ha l)
  | .dic xs, _, h, l => by
    rw [py] at l
    simp only [PyData.canLay0] at l
    cases l
theorem AtAll.dp {K : PySem.W.Frag} {Z : Zone} {H : Hp} : ∀ (ts : List Th) (vs : List V), AtAll Z H ts vs → PyData.canLayAll0 (pyL ts) = true → DpAll K H vs (pyL ts)
  | [], _, h, _ => by cases (show _ = [] from h); rw [pyL]; exact .nil
  | x :: xs, _, h, l => by
    obtain ⟨u, us, rfl, h1, h2⟩ := h
    rw [pyL] at l ⊢
    simp only [PyData.canLayAll0, Bool.and_eq_true] at l
    exact .cons (At.dp x u h1 l.1) (AtAll.dp xs us h2 l.2)
end
theorem shaped_th {t : Th} (l : (py t).canLay0 = true) (d : dp t ≤ 64) : SeqAt.shaped (py t) = true := by
  unfold SeqAt.shaped
  rw [l, Bool.true_and]
  exact decide_eq_true (Nat.le_trans (py_depth t) d)
/-- equal things are told equal -/
theorem eq_things {K : PySem.W.Frag} {Z Z' : Zone} {H : Hp} {t : Th} {u v : V} {R : Bool → Prop} (hu : At Z H t u) (hv : At Z' H t v) (l : (py t).canLay0 = true) (d : dp t ≤ 64) (q : R true) :
    ∃ d e, Dp K H u d ∧ Dp K H v e ∧ SeqAt.shaped d = true ∧ SeqAt.shaped e = true ∧ R (PyData.eqv d e) :=
  ⟨_, _, At.dp t u hu l, At.dp t v hv l, shaped_th l d, shaped_th l d, by rw [SeqAt.eqv_refl _ l]; exact q⟩
def zOf : Th → Int
  | .tup [z, _] => num z
  | _ => 0
def rowsOf : Th → List Th
  | .tup [_, .tup rows] => rows
  | _ => []
noncomputable def toldTh (e : Th) : Th := if machB e = true then .tup [.str "told", trimT (zOf e) (rowsOf e)] else .tup [.str "machine", .non]
def spToldT : Sp := fun vs H Q _ => ∃ (Z : Zone) (u : V) (e : Th), vs = [u] ∧ At Z H e u ∧ shortT e = true ∧ ∀ v H', Same H H' → At (Trk H) H' (toldTh e) v → Q v H'
def spGone : Sp := fun vs H Q _ => ∃ (Z : Zone) (u : V) (z : Int) (rows : List Th), vs = [u] ∧ At Z H (.tup [.int z, .tup rows]) u ∧ MOk z rows ∧ (∀ s, s < rows.length → lv rows s) ∧ ∀ H', Same H H' → Q (.bl true) H'
section
variable {P : Program} {w : World} {K : PySem.W.Frag} {mg : Str → Option Value} {base : Heap} {k : Nat}
end
end KL
end
section
set_option maxHeartbeats 1000000
namespace KL
open PySem PySem.Spec PyProof.Rows L2
def spLaw (K : PySem.W.Frag) : Sp := fun vs H Q _ => ∃ (a : Addr) (ns : List Int), vs = [.ref a] ∧ SqL K H a (ns.map V.int) ∧ ns.length ≤ 63 ∧ ∀ H', Q (.bl true) H'
theorem use_trimmed {CM : Addr} {H : Hp} {Q : VK} {E : XK} {Z : Zone} {u : V} {z : Int} {rows : List Th} (hu : At Z H (.tup [.int z, .tup rows]) u) (ok : MOk z rows) (q : ∀ v H', Same H H' → At (Trk H) H' (trimT z rows) v → Q v H') : spTrimmed CM [u] H Q E :=
  ⟨Z, u, _, rfl, hu, ok.short, fun z' rows' e1 _ v H' s' a' => by
    injection e1 with e1; injection e1 with e0 e1; injection e0 with e0; injection e1 with e1 _; injection e1 with e1
    subst e0 e1
    exact q v H' s' a', fun mb => absurd (mb.symm.trans ok.mach) (by decide)⟩
theorem scalO (o : Option Int) : scal (optV o) (optV o) = true := by cases o <;> rfl
theorem layS : (PyData.str "told").canLay0 = true ∧ (PyData.str "machine").canLay0 = true := by decide +kernel
theorem lay_str {x : Str} (h : (PyData.str x).canLay0 = true) : (py (.str x)).canLay0 = true := by rw [py]; exact h
theorem lay_pair {x : Str} {t : Th} (h : (PyData.str x).canLay0 = true) (l : (py t).canLay0 = true) : (py (.tup [.str x, t])).canLay0 = true :=
  lay_tup fun y m => by
    rcases List.mem_cons.mp m with rfl | m
    · exact lay_str h
    · rw [List.mem_singleton.mp m]; exact l
theorem dp_pair {x : Str} {t : Th} (h : dp t ≤ 60) : dp (.tup [.str x, t]) ≤ 64 := by
  show dpL [.str x, t] + 1 ≤ 64
  show max (dp (.str x)) (max (dp t) 0) + 1 ≤ 64
  have : dp (.str x) = 0 := rfl
  omega
theorem ne2 (x : V) : (!decide (x = x)) = false := by rw [decide_eq_true rfl]; rfl
theorem trues (n : Nat) : ((List.range n).map fun _ => V.bl true) = (List.replicate n true).map V.bl := by
  rw [List.map_const', List.length_range, List.map_replicate]
theorem trues_all (n : Nat) : (List.replicate n true).all id = true := by
  rw [List.all_eq_true]
  intro x m
  rw [List.eq_of_mem_replicate m]
  rfl
theorem keep_all {z : Int} {rows : List Th} (ok : MOk z rows) (h : lvE rows 0) : ∀ s, s < (trimL z rows).length → lv (trimL z rows) s := fun s hs => by
  have hk : keep rows ≠ [] := fun e => by
    have := keep_zero ok.n1 h
    rw [e] at this
    cases this
  have hl : (trimL z rows).length = (keep rows).length := by unfold trimL; rw [if_neg hk, List.length_map]
  have hm : s ∈ keep (trimL z rows) := by rw [keep_trim ok hk, List.mem_range, ← hl]; exact hs
  exact (mem_keep.mp hm).2
theorem mach_inj {z z' : Int} {rows rows' : List Th} (e1 : (Th.tup [.int z, .tup rows]) = .tup [.int z', .tup rows']) : z = z' ∧ rows = rows' := by
  injection e1 with e1; injection e1 with e0 e1; injection e0 with e0; injection e1 with e1 _; injection e1 with e1
  exact ⟨e0, e1⟩
end KL
end
section
set_option maxHeartbeats 1000000
namespace KL
open PySem PySem.Spec PyProof.Rows L2
/-! ### comprehensions whose step draws -/
theorem lc_wellW {J : It} {n : Nat} {G : Hp → Prop} {Y : Nat → Hp → V → Hp → Prop} {X : Nat → V → Prop} {W c : Addr} {H : Hp} {Z : Zone} {Gd : Nat → Th → Prop} {i : Nat} {own : List Nat} {te : TE} {σ : L2.St} {Q : Addr → Hp → Prop}
    (w : Walk J n G Y) (hY : ∀ j H1 x H2, Y j H1 x H2 → H2 = H1 ∧ X j x) (hG : ∀ H', SB (At1 W) H H' → G H') (hn : n ≤ 1000000) (hw : ∀ x, wipe ((wipe σ own).set i (some x)) own = wipe σ own) (hW : WellAt W c H) (zW : Z W) (hZ : ∀ a, Z a → Trk H a)
    (hs : ∀ D, H D = none → ∀ j x H2, j < n → X j x → SB (At1 W) H H2 → WellAt W c H2 → (∀ a, (a = D ∨ Z a) → Trk H2 a) → ∀ R : VK, (∀ v t H3, SB (At1 W) H2 H3 → WellAt W c H3 → At (fun a => a = D ∨ Z a) H3 t v → Gd j t → R v H3) → te ((wipe σ own).set i (some x)) H2 R)
    (hd : ∀ D H' vs ts, SB (At1 W) H H' → WellAt W c H' → H D = none → H' D = some (.lst vs) → AtAll (fun a => a = D ∨ Z a) H' ts vs → ts.length = n → (∀ j t, ts[j]? = some t → Gd j t) → Q D H') : ∀ D, H D = none → LcG J (gName i) tYes te own σ H D (Q D) := by
  intro D hD
  have nDW : D ≠ W := fun e => by rw [e] at hD; exact hW.trk hD
  refine lc_it w (fun j H' => SB (At1 W) H H' ∧ WellAt W c H' ∧ ∃ vs ts, H' D = some (.lst vs) ∧ AtAll (fun a => a = D ∨ Z a) H' ts vs ∧ ts.length = j ∧ ∀ m t, ts[m]? = some t → Gd m t) ⟨.new hD _, hW.new hW hD _, [], [], upd_same, .nil, rfl, fun m t h => nomatch h⟩ (fun j H' _ q => hG H' q.1) (fun j x H1 H' hj q y => ?_) (fun H' q => ?_)
  · obtain ⟨rfl, ex⟩ := hY _ _ _ _ y
    obtain ⟨s1, w1, vs, ts, eD, aD, lD, gD⟩ := q
    have zz : ∀ a, (a = D ∨ Z a) → Trk H' a := fun a h => by
      rcases h with rfl | h
      · exact .of eD
      · exact .well s1 w1 (hZ a h)
    refine ⟨hw x, iteT (B := False) (hs D hD j x H' hj ex s1 w1 zz _ fun v t H3 s3 w3 a3 g3 => ?_)⟩
    have e3 : H3 D = some (.lst vs) := s3 D _ nDW eD
    refine ⟨vs, e3, by rw [aD.len, lD, sizeLine_eq]; omega, (s1.trans s3).upd_new hD _, w3.new hW hD _, vs ++ [v], ts ++ [t], upd_same, ?_, by rw [List.length_append, lD]; rfl, fun m u em => ?_⟩
    · have sD : SB (fun a => a = D ∨ Z a) H3 (upd H3 D (.lst (vs ++ [v]))) := .self (Z := fun a => a = D ∨ Z a) (.inl rfl) _
      exact AtAll.append ((aD.sb (s3.mono fun b e => .inr (by rw [show b = W from e]; exact zW))).sb sD) (.cons (a3.sb sD) .nil)
    · rcases get_snoc em with h | ⟨rfl, rfl⟩
      · exact gD m u h
      · rw [lD]; exact g3
  · obtain ⟨s1, w1, vs, ts, eD, aD, lD, gD⟩ := q
    exact hd D H' vs ts s1 w1 hD eD aD lD gD
theorem ints_of {Z : Zone} {H : Hp} {p : Int → Prop} : ∀ {ts : List Th} {vs : List V}, AtAll Z H ts vs → (∀ t ∈ ts, ∃ i, t = .int i ∧ p i) → ∃ ns : List Int, vs = ns.map V.int ∧ ns.length = ts.length ∧ ∀ i ∈ ns, p i
  | [], _, h, _ => ⟨[], by rw [show _ = [] from h]; rfl, rfl, fun i m => nomatch m⟩
  | t :: ts, _, ⟨u, us, e, h1, h2⟩, g => by
    obtain ⟨i, rfl, pi⟩ := g t List.mem_cons_self
    obtain ⟨ns, rfl, l, q⟩ := ints_of h2 fun t m => g t (List.mem_cons_of_mem _ m)
    cases (show u = .int i from h1)
    refine ⟨i :: ns, e, by rw [List.length_cons, List.length_cons, l], fun j m => ?_⟩
    rcases List.mem_cons.mp m with rfl | m
    · exact pi
    · exact q j m
theorem AtAll.set {Z : Zone} {H : Hp} {d : Th} {v : V} (h : At Z H d v) : ∀ {ds : List Th} {vs : List V} (i : Nat), AtAll Z H ds vs → AtAll Z H (ds.set i d) (vs.set i v)
  | [], _, _, a => by rw [show _ = [] from a]; exact .nil
  | _ :: _, _, 0, ⟨u, us, e, h1, h2⟩ => by subst e; exact .cons h h2
  | _ :: _, _, i + 1, ⟨u, us, e, h1, h2⟩ => by subst e; exact .cons h1 (AtAll.set h i h2)
theorem AtAll.rep {Z : Zone} {H : Hp} {d : Th} {v : V} (h : At Z H d v) : ∀ n : Nat, AtAll Z H (List.replicate n d) (List.replicate n v)
  | 0 => .nil
  | n + 1 => .cons h (AtAll.rep h n)
/-- a thing that needs no place -/
def bare : Th → Bool
  | .non | .bl _ | .int _ | .str _ => true
  | _ => false
theorem At.bare {Z Z' : Zone} {H H' : Hp} {t : Th} {v : V} (h : At Z H t v) (b : bare t = true) : At Z' H' t v := by
  cases t <;> first | exact h | cases b
theorem filt_ns (p : Nat → Bool) (n : Nat) : ((List.range n).filter p).map nV = ((List.range n).filter p).map (fun j => nV j) := rfl
/-! ### slices of tuples of things, exactly -/
def cutT (ds : List Th) (lo hi : Option Int) : List Th := (ds.drop (HT.sIx ds.length 0 lo)).take (HT.sIx ds.length ds.length hi - HT.sIx ds.length 0 lo)
theorem cutT_to (ds : List Th) (n : Nat) : cutT ds none (some (n : Int)) = ds.take n := by
  unfold cutT
  rw [HT.sIx_nat, HT.sIx_none, List.drop_zero, Nat.sub_zero]
  by_cases h : n ≤ ds.length
  · rw [Nat.min_eq_left h]
  · rw [Nat.min_eq_right (by omega), List.take_length, List.take_of_length_le (by omega)]
theorem cutT_from (ds : List Th) (n : Nat) : cutT ds (some (n : Int)) none = ds.drop n := by
  unfold cutT
  rw [HT.sIx_nat, HT.sIx_none]
  by_cases h : n ≤ ds.length
  · rw [Nat.min_eq_left h, List.take_of_length_le (by rw [List.length_drop]; exact Nat.le_refl _)]
  · rw [Nat.min_eq_right (by omega), List.drop_length, List.drop_eq_nil_of_le (by omega), List.take_nil]
def rSlX (K : PySem.W.Frag) : V → Option Int → Option Int → Hp → VK → Prop := fun x lo hi H Q => ∃ W ds, At (At1 W) H (.tup ds) x ∧ Trk H W ∧ ∀ v H', Same H H' → At (At1 W) H' (.tup (cutT ds lo hi)) v → Q v H'
section
variable {X : Cx}
theorem sl_exact : SlR X (rSlX X.K) := by
  intro pins s σ H x v vl vu lo hi sl Q I rx hs pl pu h
  refine sl_tupA pins s σ H x v vl vu lo hi sl Q I rx hs pl pu ?_
  obtain ⟨W, ds, h, hW, q⟩ := h
  obtain ⟨a, vs, rfl, na, e, ha⟩ := id h
  refine ⟨a, vs, rfl, .of e, fun hh => ?_, fun _ p hp => ?_⟩
  · rw [ha.len] at hh
    have e2 : cutT ds lo hi = ds := by unfold cutT; rw [hh.1, hh.2]; simp
    have q2 := q (.ref a) H (Same.refl H)
    rw [e2] at q2
    exact q2 h
  · have sp := same_new hp (.tup (cutV vs lo hi))
    refine q _ _ sp ⟨p, _, rfl, ne_new hW hp, upd_same, ?_⟩
    unfold cutT
    rw [← ha.len]
    exact ((ha.drop _).take _).same sp
end
end KL
end
section
set_option maxHeartbeats 1000000
namespace KL
open PySem PySem.Spec PyProof.Rows L2
/-! ### steps that take nothing -/
def freeT : Th → Option Nat
  | .tup [.int m, .int s] => if m = 0 then some s.toNat else none
  | _ => none
def fnr (r : Th) : List Nat := (stepsOf r).filterMap freeT
def fns (rows : List Th) : List (List Nat) := rows.map fnr
theorem fns_len (rows : List Th) : (fns rows).length = rows.length := List.length_map _
theorem fns_get {rows : List Th} {i : Nat} {r : Th} (h : rows[i]? = some r) : (fns rows)[i]? = some (fnr r) := by
  unfold fns; rw [List.getElem?_map, h]; rfl
theorem fns_getD (rows : List Th) (i : Nat) : ((fns rows)[i]?).getD [] = fnr ((rows[i]?).getD .non) := by
  unfold fns
  rw [List.getElem?_map]
  cases rows[i]? <;> rfl
/-- by one step or more that take nothing -/
abbrev FR (rows : List Th) (a b : Nat) : Prop := RS (fns rows) (((fns rows)[a]?).getD []) b
theorem freeT_lt {n : Int} {st : Th} {t : Nat} (h : StepIs n st) (e : freeT st = some t) : (t : Int) < n := by
  rcases h with rfl | ⟨m, s, rfl, m0, m1, s0, s1⟩
  · cases e
  · have e' : (if m = 0 then some s.toNat else none) = some t := e
    split at e'
    · have := Option.some.inj e'; omega
    · cases e'
theorem fn_lt {z : Int} {rows : List Th} (ok : MOk z rows) {i t : Nat} (m : t ∈ ((fns rows)[i]?).getD []) : t < rows.length := by
  rw [fns_getD] at m
  cases hs : rows[i]? with
  | none => rw [hs] at m; cases m
  | some r =>
    have hlt := (List.getElem?_eq_some_iff.mp hs).1
    obtain ⟨e, ss, er, h1, h2, h3⟩ := ok.row hlt
    rw [er] at m
    obtain ⟨st, ms, et⟩ := List.mem_filterMap.mp m
    have := freeT_lt (h3 st ms) et
    omega
theorem FR.lt {z : Int} {rows : List Th} (ok : MOk z rows) {a b : Nat} (h : FR rows a b) : b < rows.length := by
  cases h with
  | base m => exact fn_lt ok m
  | step _ m => exact fn_lt ok m
/-- letters led by steps that take nothing -/
def fwalk (rows : List Th) : Nat → List Th → Option Nat
  | s, [] => some s
  | s, l :: ls => match stepAt rows s (num l).toNat with
    | .tup [.int d, .int s'] => if d = 0 then fwalk rows s'.toNat ls else none
    | _ => none
theorem free_nx {rows : List Th} {s l : Nat} {s' : Int} (h : stepAt rows s l = .tup [.int 0, .int s']) : s'.toNat ∈ ((fns rows)[s]?).getD [] := by
  rw [fns_getD]
  unfold stepAt at h
  cases e : (stepsOf ((rows[s]?).getD .non))[l]? with
  | none => rw [e] at h; cases h
  | some x =>
    rw [e] at h
    have h' : x = .tup [.int 0, .int s'] := h
    subst h'
    exact List.mem_filterMap.mpr ⟨_, List.mem_of_getElem? e, rfl⟩
theorem fwalk_app (rows : List Th) : ∀ (ls ks : List Th) (a b : Nat), fwalk rows a ls = some b → fwalk rows a (ls ++ ks) = fwalk rows b ks
  | [], ks, a, b, h => by rw [show a = b from Option.some.inj h]; rfl
  | l :: ls, ks, a, b, h => by
    rw [List.cons_append, fwalk]
    rw [fwalk] at h
    split at h
    · next d s' e =>
      split at h
      · next hd =>
        rw [if_pos hd]
        exact fwalk_app rows ls ks _ b h
      · cases h
    · cases h
theorem fwalk_one {rows : List Th} {s l : Nat} {s' : Int} (h : stepAt rows s l = .tup [.int 0, .int s']) : fwalk rows s [.int (l : Nat)] = some s'.toNat := by
  rw [fwalk, show (num (.int (l : Nat))).toNat = l from Int.toNat_natCast l, h]
  show (if (0 : Int) = 0 then fwalk rows s'.toNat [] else none) = _
  rw [if_pos rfl]
  rfl
theorem fwalk_FR (rows : List Th) : ∀ (ls : List Th) (a b : Nat), fwalk rows a ls = some b → a = b ∧ ls = [] ∨ FR rows a b
  | [], a, b, h => .inl ⟨Option.some.inj h, rfl⟩
  | l :: ls, a, b, h => by
    right
    rw [fwalk] at h
    split at h
    · next d s' e =>
      split at h
      · next hd =>
        subst hd
        have m := free_nx e
        rcases fwalk_FR rows ls _ _ h with ⟨e1, _⟩ | r
        · rw [← e1]; exact .base m
        · have : ∀ x, RS (fns rows) (((fns rows)[s'.toNat]?).getD []) x → FR rows a x := fun x r => by
            induction r with
            | base m2 => exact .step (.base m) m2
            | step _ m2 ih => exact .step ih m2
          exact this b r
      · cases h
    · cases h
/-- what a ring is -/
def ringT (z : Int) (rows : List Th) : Th → Bool
  | .tup [a, .tup ls] => inn 0 ((rows.length : Int) - 1) a && textB z (.tup ls) && !ls.isEmpty && decide (fwalk rows (num a).toNat ls = some (num a).toNat)
  | _ => false
theorem ringT_not {z : Int} {rows : List Th} {d : Th} (h : isPair d = false) : ringT z rows d = false := by
  cases d with
  | tup xs =>
    match xs, h with
    | [], _ => rfl
    | [_], _ => rfl
    | [_, _], h => cases h
    | a :: b :: c :: r, _ => cases b <;> rfl
  | _ => rfl
theorem ringT_text {z : Int} {rows : List Th} {a b : Th} (h : textB z b = false) : ringT z rows (.tup [a, b]) = false := by
  cases b with
  | tup ls => rw [ringT, h, Bool.and_false, Bool.false_and, Bool.false_and]
  | _ => rfl
theorem ringT_in {z : Int} {rows : List Th} {a b : Th} (h : inn 0 ((rows.length : Int) - 1) a = false) : ringT z rows (.tup [a, b]) = false := by
  cases b with
  | tup ls => rw [ringT, h, Bool.false_and, Bool.false_and, Bool.false_and]
  | _ => rfl
theorem ringT_FR {z : Int} {rows : List Th} {s : Nat} {ls : List Th} (h : ringT z rows (.tup [.int (s : Nat), .tup ls]) = true) : FR rows s s ∧ s < rows.length := by
  rw [ringT, Bool.and_eq_true, Bool.and_eq_true, Bool.and_eq_true, decide_eq_true_eq] at h
  obtain ⟨⟨⟨h1, h2⟩, h3⟩, h4⟩ := h
  rw [show (num (.int (s : Nat))).toNat = s from Int.toNat_natCast s] at h4
  obtain ⟨i, e, i0, i1⟩ := inn_int h1
  injection e with e
  refine ⟨?_, by omega⟩
  rcases fwalk_FR rows ls s s h4 with ⟨_, e⟩ | r
  · rw [e] at h3; cases h3
  · exact r
theorem ringT_of {z : Int} {rows : List Th} {s : Nat} {ls : List Th} (hs : s < rows.length) (hl : textB z (.tup ls) = true) (hn : ls ≠ []) (hw : fwalk rows s ls = some s) : ringT z rows (.tup [.int (s : Nat), .tup ls]) = true := by
  rw [ringT, inn, decide_eq_true (show (0 : Int) ≤ (s : Int) by omega), decide_eq_true (show (s : Int) ≤ (rows.length : Int) - 1 by omega), hl, show (num (.int (s : Nat))).toNat = s from Int.toNat_natCast s, decide_eq_true hw]
  cases ls with
  | nil => exact absurd rfl hn
  | cons a b => rfl
noncomputable def ringB (rows : List Th) (s : Nat) : Bool := @decide (FR rows s s) (Classical.propDecidable _)
theorem ringB_iff {rows : List Th} {s : Nat} : ringB rows s = true ↔ FR rows s s := by
  unfold ringB; exact @decide_eq_true_iff (FR rows s s) (Classical.propDecidable _)
/-- a walk by turns from any starts -/
structure RJ (ways : List (List Nat)) (starts : List Nat) (i : Nat) (fs : List Nat) : Prop where
  nd : fs.Nodup
  mb : ∀ s ∈ starts, s ∈ fs
  snd : ∀ x ∈ fs, RS ways starts x
  clo : ∀ (j x : Nat), j < i → fs[j]? = some x → ∀ t ∈ (ways[x]?).getD [], t ∈ fs
section
variable {ways : List (List Nat)} {starts : List Nat} {i n x : Nat} {fs fr : List Nat}
theorem RJ.done (h : RJ ways starts n fs) (hl : fs.length ≤ n) (x : Nat) : x ∈ fs ↔ RS ways starts x := by
  refine ⟨h.snd x, fun r => ?_⟩
  induction r with
  | base m => exact h.mb _ m
  | step r m ih =>
    obtain ⟨j, ej⟩ := List.mem_iff_getElem?.mp ih
    have lj := (List.getElem?_eq_some_iff.mp ej).1
    exact h.clo j _ (by omega) ej _ m
theorem RJ.skip (h : RJ ways starts i fs) (hi : fs.length ≤ i) : RJ ways starts (i + 1) fs where
  nd := h.nd
  mb := h.mb
  snd := h.snd
  clo := fun j x hj ej => h.clo j x (by have := (List.getElem?_eq_some_iff.mp ej).1; omega) ej
theorem RJ.more (h : RJ ways starts i fs) (ex : fs[i]? = some x) (nd : fr.Nodup) (hr : ∀ y, y ∈ fr ↔ y ∈ (ways[x]?).getD [] ∧ y ∉ fs) : RJ ways starts (i + 1) (fs ++ fr) where
  nd := List.nodup_append.mpr ⟨h.nd, nd, fun a ma c mc e => by
    subst e
    exact ((hr a).mp mc).2 ma⟩
  mb := fun s m => List.mem_append_left _ (h.mb s m)
  snd := fun y m => by
    rcases List.mem_append.mp m with m | m
    · exact h.snd y m
    · exact .step (h.snd x (List.mem_of_getElem? ex)) ((hr y).mp m).1
  clo := fun j y hj ej t mt => by
    have hi := (List.getElem?_eq_some_iff.mp ex).1
    rw [List.getElem?_append_left (by omega)] at ej
    by_cases e : j = i
    · subst e
      rw [ex] at ej
      cases ej
      by_cases hm : t ∈ fs
      · exact List.mem_append_left _ hm
      · exact List.mem_append_right _ ((hr t).mpr ⟨mt, hm⟩)
    · exact List.mem_append_left _ (h.clo j y (by omega) ej t mt)
end
end KL
end
section
set_option maxHeartbeats 1000000
namespace KL
open PySem PySem.Spec PyProof.Rows L2
def spFNexts : Sp := fun vs H Q _ => ∃ (Z : Zone) (r : Th) (v : V) (z n : Int), vs = [v] ∧ At Z H r v ∧ rowB z n r = true ∧ z ≤ 8 ∧ ∀ N H', Same H H' → H N = none → H' N = some (.lst ((fnr r).map nV)) → Q (.ref N) H'
def spFFrom : Sp := fun vs H Q _ => ∃ (Z : Zone) (pr : Addr) (us : List V) (z : Int) (rows : List Th) (b : Nat), vs = [.ref pr, .int (b : Nat)] ∧ H pr = some (.tup us) ∧ AtAll Z H rows us ∧ MOk z rows ∧ b < rows.length ∧ ∀ (N : Addr) (fs : List Nat) (H' : Hp), Same H H' → H N = none → H' N = some (.lst (fs.map nV)) → fs.Nodup → (∀ x, x ∈ fs ↔ FR rows b x) → Q (.ref N) H'
def spIdles : Sp := fun vs H Q _ => ∃ (Z : Zone) (pr : Addr) (us : List V) (z : Int) (rows : List Th), vs = [.ref pr] ∧ H pr = some (.tup us) ∧ AtAll Z H rows us ∧ MOk z rows ∧ ∀ (N : Addr) (H' : Hp), Same H H' → H' N = some (.lst (((List.range rows.length).filter (ringB rows)).map nV)) → Q (.ref N) H'
theorem free_one {st : Th} {m s : Int} (e : st = .tup [.int m, .int s]) : [st].filterMap freeT = if m = 0 then [s.toNat] else [] := by
  subst e
  by_cases h : m = 0 <;> simp [freeT, h]
section
variable {P : Program} {w : World} {K : PySem.W.Frag} {mg : Str → Option Value} {base : Heap} {k : Nat}
end
end KL
end
section
set_option maxHeartbeats 1000000
namespace KL
open PySem PySem.Spec PyProof.Rows L2
abbrev sc_idle_roundN : List Str := ["rows", "start", "ways", "seen", "at", "state", "letters", "letter", "step"]
abbrev s_idle_round : Stmt := topS 29
theorem sc_idle_round : FnScope ["rows", "start", "ways", "seen", "at", "state", "letters", "letter", "step"] ["rows", "start"] (defScope s_idle_round) := ⟨rfl, rfl, rfl, by decide +kernel, rfl, by decide +kernel, by decide +kernel⟩
abbrev sc_idleN : List Str := ["machine", "rows", "state", "letters"]
abbrev s_idle : Stmt := topS 28
theorem sc_idle : FnScope ["machine", "rows", "state", "letters"] ["machine"] (defScope s_idle) := ⟨rfl, rfl, rfl, by decide +kernel, rfl, by decide +kernel, by decide +kernel⟩
abbrev pairT (q : Nat × List Th) : Th := .tup [.int (q.1 : Nat), .tup q.2]
abbrev sts (wl : List (Nat × List Th)) : List Nat := (wl.drop 1).map (·.1)
/-- the states found by steps that take nothing, with the letters to them -/
structure WR (z : Int) (rows : List Th) (s i : Nat) (wl : List (Nat × List Th)) (S : Int → Bool) : Prop where
  hd : wl[0]? = some (s, [])
  pth : ∀ q ∈ wl, fwalk rows s q.2 = some q.1 ∧ Lets z q.2 ∧ q.2.length < wl.length ∧ q.1 < rows.length
  nd : (sts wl).Nodup
  seen : ∀ t : Nat, S (t : Int) = true ↔ t ∈ sts wl
  ns : s ∉ sts wl
  clo : ∀ (j : Nat) q, j < i → wl[j]? = some q → ∀ t ∈ ((fns rows)[q.1]?).getD [], t ≠ s ∧ t ∈ sts wl
section
variable {z : Int} {rows : List Th} {s i : Nat} {wl : List (Nat × List Th)} {S : Int → Bool}
theorem WR.pos (h : WR z rows s i wl S) : 1 ≤ wl.length := (List.getElem?_eq_some_iff.mp h.hd).1
theorem WR.len (h : WR z rows s i wl S) : wl.length ≤ rows.length + 1 := by
  have l1 : (sts wl).length ≤ rows.length := nd_len h.nd fun x m => by
    obtain ⟨q, mq, rfl⟩ := List.mem_map.mp m
    exact (h.pth q (List.mem_of_mem_drop mq)).2.2.2
  rw [List.length_map, List.length_drop] at l1
  omega
theorem sts_app {wl : List (Nat × List Th)} (h : 1 ≤ wl.length) (q : Nat × List Th) : sts (wl ++ [q]) = sts wl ++ [q.1] := by
  unfold sts
  rw [List.drop_append_of_le_length h, List.map_append]
  rfl
theorem WR.add (h : WR z rows s i wl S) {t : Nat} {ls : List Th} (hs : t ≠ s) (nt : t ∉ sts wl) (hw : fwalk rows s ls = some t) (hL : Lets z ls) (hl : ls.length ≤ wl.length) (lt : t < rows.length) (hi : i ≤ wl.length) : WR z rows s i (wl ++ [(t, ls)]) (fun j => S j || decide (j = (t : Int))) where
  hd := by rw [List.getElem?_append_left h.pos]; exact h.hd
  pth := fun q m => by
    rw [List.length_append, List.length_singleton]
    rcases List.mem_append.mp m with m | m
    · obtain ⟨a, b, c, d⟩ := h.pth q m
      exact ⟨a, b, by omega, d⟩
    · rw [List.mem_singleton.mp m]
      exact ⟨hw, hL, by show ls.length < _; omega, lt⟩
  nd := by
    rw [sts_app h.pos]
    refine List.nodup_append.mpr ⟨h.nd, by simp, fun a ma b mb e => ?_⟩
    rw [List.mem_singleton.mp mb] at e
    subst e
    exact nt ma
  seen := fun u => by
    rw [sts_app h.pos, List.mem_append, List.mem_singleton, Bool.or_eq_true, h.seen u, decide_eq_true_eq]
    show _ ∨ _ ↔ _ ∨ u = t
    constructor
    · rintro (a | a)
      · exact .inl a
      · exact .inr (by omega)
    · rintro (a | a)
      · exact .inl a
      · exact .inr (by omega)
  ns := by
    rw [sts_app h.pos, List.mem_append, List.mem_singleton]
    rintro (a | a)
    · exact h.ns a
    · exact hs a.symm
  clo := fun j q hj eq u mu => by
    rw [sts_app h.pos]
    by_cases hjl : j < wl.length
    · rw [List.getElem?_append_left hjl] at eq
      obtain ⟨a, b⟩ := h.clo j q hj eq u mu
      exact ⟨a, List.mem_append_left _ b⟩
    · omega
theorem WR.none (h : WR z rows s i wl S) (hi : wl.length ≤ i) : ¬ FR rows s s := fun r => by
  have all : ∀ x, FR rows s x → x ≠ s ∧ x ∈ sts wl := fun x r => by
    induction r with
    | base m => exact h.clo 0 (s, []) (by have := h.pos; omega) h.hd _ m
    | step r m ih =>
      obtain ⟨q, mq, e⟩ := List.mem_map.mp ih.2
      obtain ⟨j, ej⟩ := List.mem_iff_getElem?.mp (List.mem_of_mem_drop mq)
      have lj := (List.getElem?_eq_some_iff.mp ej).1
      refine h.clo j q (by omega) ej _ ?_
      rw [e]
      exact m
  exact (all s r).1 rfl
end
def spRound : Sp := fun vs H Q _ => ∃ (Z : Zone) (pr : Addr) (us : List V) (z : Int) (rows : List Th) (s : Nat), vs = [.ref pr, .int (s : Nat)] ∧ H pr = some (.tup us) ∧ AtAll Z H rows us ∧ MOk z rows ∧ s < rows.length ∧
  (∀ (v : V) (H' : Hp) (ls : List Th), Same H H' → At (Trk H) H' (.tup ls) v → Lets z ls → ls ≠ [] → ls.length ≤ 100 → fwalk rows s ls = some s → Q v H') ∧ (¬ FR rows s s → ∀ H', Same H H' → Q .non H')
section
variable {P : Program} {w : World} {K : PySem.W.Frag} {mg : Str → Option Value} {base : Heap} {k : Nat}
theorem ok_idle_round (Z : Zs mg) (d : Def K mg "idle_round" s_idle_round ["rows", "start"]) : Cal P w K mg base CX0 (k + 1) "idle_round" ["rows", "start"] spRound := by
  refine d.ok sc_idle_round (fun vs H Q E h => ?_) (fun f cdv A outer s H vs Q E hr h => ?_)
  · obtain ⟨_, _, _, _, _, _, rfl, _⟩ := h; rfl
  obtain ⟨Zn, pr, us, z, rows, st0, rfl, epr, ar, ok, hs, q1, q0⟩ := h
  refine ⟨_, (pss_cons (ps_set (i := 2) sc_idle_round.nd rfl (Or.inl rfl) (pe_lst (pa_cons (pe_tup (pa_cons (pv 1) (pa_cons (pe_tup pa_nil) pa_nil))) pa_nil)))
      (pss_cons (ps_set (i := 3) sc_idle_round.nd rfl (Or.inl rfl) (pe_callTy0 (T := "set") cr_set0 (by rfl) Z.set (by decide +kernel)))
      (pss_cons (ps_set (i := 4) sc_idle_round.nd rfl (Or.inl rfl) pe_int)
      (pss_cons (ps_while PassesOwn.never (pt_cmpR op_lt (pv 4) (pe_callB (id := "len") call_len_seq (by rfl) Z.len (by decide +kernel) (pa_cons (pv 2) pa_nil)) (nomark _)) (pss_cons (ps_asg (pe_ix ix_list (pv 2) (pv 4) (fun _ _ => rfl)) (pg_tup (by rfl) (pgs_cons (pg_name (i := 5) sc_idle_round.nd rfl (Or.inl rfl)) (pgs_cons (pg_name (i := 6) sc_idle_round.nd rfl (Or.inl rfl)) pgs_nil))))
      (pss_cons (ps_aug (i := 4) sc_idle_round.nd rfl (Or.inl rfl) pe_int ip_add)
      (pss_one (ps_for PassesOwn.never rfl (pi_enumT (by rfl) Z.enumerate (pa_cons (pe_ix ix_tup (pe_ix ix_tup (pv 0) (pv 5) (fun _ _ => rfl)) pe_int (fun _ _ => rfl)) pa_nil)) (pg_tup (by rfl) (pgs_cons (pg_name (i := 7) sc_idle_round.nd rfl (Or.inl rfl)) (pgs_cons (pg_name (i := 8) sc_idle_round.nd rfl (Or.inl rfl)) pgs_nil))) (pss_cons (ps_if (PW.pt (pw_or (pt_cmpR op_isN (pv 8) pe_non (nomark _)) (pw_or1 (pt_cmpR op_gt (pe_ix ix_tup (pv 8) pe_int (fun _ _ => rfl)) pe_int (nomark _))))) (pss_one ps_continue) pss_nil)
      (pss_cons (ps_if (pt_cmpR op_eq (pe_ix ix_tup (pv 8) pe_int (fun _ _ => rfl)) (pv 1) (nomark _)) (pss_one (ps_ret (pe_op op_catX (pv 6) (pe_tup (pa_cons (pv 7) pa_nil))))) pss_nil)
      (pss_one (ps_if (pt_cmpR or_snotin (pe_ix ix_tup (pv 8) pe_int (fun _ _ => rfl)) (pv 3) (by rfl)) (pss_cons (ps_expr (pe_sadd (pv 3) (pa_cons (pe_ix ix_tup (pv 8) pe_int (fun _ _ => rfl)) pa_nil)))
      (pss_one (ps_expr (pe_bm PySem.F.plainAttrs_list PySem.F.slot_list_append PySem.F.type_list_append mt_append (pv 2) (pa_cons (pe_tup (pa_cons (pe_ix ix_tup (pv 8) pe_int (fun _ _ => rfl)) (pa_cons (pe_op op_catX (pv 6) (pe_tup (pa_cons (pv 7) pa_nil))) pa_nil))) pa_nil))))) pss_nil)))))))))
      (pss_one (ps_ret pe_non)))))), ?_⟩
  have n30 := ok.n30
  have z8 := ok.z8
  have hX : (cxOf CX0 P w K mg base sc_idle_roundN "idle_round" (defScope s_idle_round) f cdv A outer s H E).nox.w = w := rfl
  -- ways = [(start, ())]
  refine ⟨_, rfl, (by show 0 ≤ sizeLine; decide), fun T0 nT0 => ⟨(by show 2 ≤ sizeLine; decide), fun T1 nT1 => ⟨(by show 1 ≤ sizeLine; decide), fun Wy nW => ?_⟩⟩⟩
  have y0 := same_new nT0 (.tup [])
  have y1 := same_new nT1 (.tup [V.int (st0 : Nat), .ref T0])
  have yW := same_new nW (.lst [V.ref T1])
  have y01 := y0.trans y1
  have nWH : H Wy = none := Same.free y01 nW
  -- seen = set()
  refine ⟨rfl, fun S nS => ?_⟩
  rw [hX]
  have yS := same_new nS (SetO w S (fun _ => false) 0)
  have sH0 := (y01.trans yW).trans yS
  have nSH : H S = none := Same.free (y01.trans yW) nS
  have eW0 := yS _ _ (upd_same (H := upd (upd H T0 (.tup [])) T1 (.tup [V.int (st0 : Nat), .ref T0])) (a := Wy) (o := .lst [V.ref T1]))
  have nSW : S ≠ Wy := fun e => by rw [e, upd_same] at nS; cases nS
  have eS0 : (upd (upd (upd (upd H T0 (.tup [])) T1 (.tup [V.int (st0 : Nat), .ref T0])) Wy (.lst [V.ref T1])) S (SetO w S (fun _ => false) 0)) S = some (SetO w S (fun _ => false) 0) := upd_same
  have a0 : At (fun a => a = Wy ∨ a = S ∨ Trk H a) (upd (upd (upd (upd H T0 (.tup [])) T1 (.tup [V.int (st0 : Nat), .ref T0])) Wy (.lst [V.ref T1])) S (SetO w S (fun _ => false) 0)) (pairT (st0, [])) (.ref T1) := by
    have yy := yW.trans yS
    refine ⟨T1, _, rfl, fun h => ?_, yy _ _ upd_same, .cons rfl (.cons ⟨T0, [], rfl, fun h => ?_, (y1.trans yy) _ _ upd_same, .nil⟩ .nil)⟩
    · rcases h with rfl | rfl | h
      · rw [upd_same] at nW; cases nW
      · rw [yW _ _ upd_same] at nS; cases nS
      · exact Trk.not nT1 (Trk.same y0 h)
    · rcases h with rfl | rfl | h
      · rw [y1 _ _ upd_same] at nW; cases nW
      · rw [(y1.trans yW) _ _ upd_same] at nS; cases nS
      · exact h nT0
  generalize upd (upd (upd (upd H T0 (.tup [])) T1 (.tup [V.int (st0 : Nat), .ref T0])) Wy (.lst [V.ref T1])) S (SetO w S (fun _ => false) 0) = H0 at *
  have wr0 : WR z rows st0 0 [(st0, [])] (fun _ => false) := ⟨rfl, fun q m => by rw [List.mem_singleton.mp m]; exact ⟨rfl, Lets.nil z, (by show 0 < 1; omega), hs⟩, by simp [sts], fun t => by simp [sts], by simp [sts], fun j q hj => by omega⟩
  refine ⟨fun m σ' H' => ∃ (wl : List (Nat × List Th)) (wv : List V) (i : Nat) (Sf : Int → Bool) (sn : Nat) (y5 y6 y7 y8 : Option V), σ' = [some (.ref pr), some (.int (st0 : Nat)), some (.ref Wy), some (.ref S), some (.int (i : Nat)), y5, y6, y7, y8] ∧ Same H H' ∧ H' Wy = some (.lst wv) ∧ H' S = some (SetO w S Sf sn) ∧ AtAll (fun a => a = Wy ∨ a = S ∨ Trk H a) H' (wl.map pairT) wv ∧ i ≤ wl.length ∧ m = rows.length + 2 - i ∧ sn ≤ 100 + wl.length ∧ WR z rows st0 i wl Sf,
    ⟨_, [(st0, [])], [V.ref T1], 0, _, 0, none, none, none, none, rfl, sH0, eW0, eS0, .cons a0 .nil, Nat.zero_le _, rfl, Nat.zero_le _, wr0⟩, ?_⟩
  rintro m σ' H3 ⟨wl, wv, i, Sf, sn, y5, y6, y7, y8, rfl, s3, eW, eS, aW, hi, em, hsn, wr⟩
  have lwv : wv.length = wl.length := by rw [aW.len, List.length_map]
  have lwl := wr.len
  have c1 : decide ((i : Int) < ((wv.length : Nat) : Int)) = decide (i < wl.length) := decide_eq_decide.mpr (by omega)
  refine ⟨_, rfl, _, rfl, Wy, _, rfl, .inl (.of eW), _, _, rfl, rfl, _, rfl, iteB (fun e1 => ?_) (fun e1 => ?_)⟩
  · rw [c1, decide_eq_true_eq] at e1
    refine ⟨fun σ' H' => ∃ m', m' < m ∧ ∃ (wl : List (Nat × List Th)) (wv : List V) (i : Nat) (Sf : Int → Bool) (sn : Nat) (y5 y6 y7 y8 : Option V), σ' = [some (.ref pr), some (.int (st0 : Nat)), some (.ref Wy), some (.ref S), some (.int (i : Nat)), y5, y6, y7, y8] ∧ Same H H' ∧ H' Wy = some (.lst wv) ∧ H' S = some (SetO w S Sf sn) ∧ AtAll (fun a => a = Wy ∨ a = S ∨ Trk H a) H' (wl.map pairT) wv ∧ i ≤ wl.length ∧ m' = rows.length + 2 - i ∧ sn ≤ 100 + wl.length ∧ WR z rows st0 i wl Sf, fun σ' H' h => h, ?_⟩
    have ex : wl[i]? = some wl[i] := List.getElem?_eq_getElem e1
    generalize wl[i] = qq at ex
    obtain ⟨x, ls⟩ := qq
    obtain ⟨fx, Lx, lx0, hx⟩ := wr.pth _ (List.mem_of_getElem? ex)
    have lx : ls.length < wl.length := lx0
    obtain ⟨vx, evx, hvx⟩ := aW.at (get_map (f := pairT) ex)
    obtain ⟨pt, u, w', rfl, ept, b1, b2⟩ := At.pair hvx
    cases b1
    refine ⟨_, rfl, _, rfl, Wy, _, _, .ref pt, rfl, rfl, .of eW, atI_nat evx, pt, _, rfl, .of ept, rfl, _, _, rfl, _, _, rfl, rfl, ?_⟩
    refine ⟨_, rfl, _, _, rfl, rfl, ?_⟩
    obtain ⟨pu, ve, ps, vs, e, ss, c1', c2, c3, c4, c5, c6, c7, c8, c9⟩ := row_at ar ok hx
    have lss := c8.len
    refine ⟨_, rfl, _, rfl, pr, us, _, .ref pu, rfl, rfl, .of (s3 _ _ epr), atI_nat c1', pu, _, 1, .ref ps, rfl, rfl, .of (s3 _ _ c2), rfl, ?_⟩
    refine ⟨ps, vs, rfl, .of (s3 _ _ c3), for_it walk_enumT (fun j σ' G => ∃ (wl' : List (Nat × List Th)) (wv : List V) (Sf : Int → Bool) (sn : Nat) (y7 y8 : Option V), σ' = [some (.ref pr), some (.int (st0 : Nat)), some (.ref Wy), some (.ref S), some (.int ((i + 1 : Nat) : Int)), some (.int (x : Nat)), some w', y7, y8] ∧ Same H G ∧ G Wy = some (.lst wv) ∧ G S = some (SetO w S Sf sn) ∧ AtAll (fun a => a = Wy ∨ a = S ∨ Trk H a) G (wl'.map pairT) wv ∧ At (fun a => a = Wy ∨ a = S ∨ Trk H a) G (.tup ls) w' ∧ (∃ more, wl' = wl ++ more) ∧ sn ≤ 100 + wl'.length ∧ WR z rows st0 i wl' Sf ∧ ∀ t ∈ (ss.take j).filterMap freeT, t ≠ st0 ∧ t ∈ sts wl')
      ⟨wl, wv, Sf, sn, _, _, rfl, s3, eW, eS, aW, b2, ⟨[], (List.append_nil _).symm⟩, hsn, wr, fun t mt => by rw [List.take_zero] at mt; cases mt⟩ (fun j σ' G _ p2 => by obtain ⟨_, _, _, _, _, _, _, sG, _⟩ := p2; exact .of (sG _ _ c3)) (fun j xx σ' G G' hj p2 y => ?_) (fun σ' G p2 => ?_)⟩
    · obtain ⟨wl', wv, Sf, sn, y7, y8, rfl, sG, eW, eS, aW, aL, ⟨more, rfl⟩, hsn, wr, cl⟩ := p2
      obtain ⟨T, k1, k2, rfl, nT, rfl, g1, g2⟩ := y
      cases g1
      have g2' : vs[j]? = some k2 := g2
      have yT := same_new nT (.tup [V.int (j : Nat), k2])
      have lwl' := wr.len
      have lwv' : wv.length = (wl ++ more).length := by rw [aW.len, List.length_map]
      have sT := sG.trans yT
      have tk : ∀ {st : Th}, ss[j]? = some st → (ss.take (j + 1)).filterMap freeT = (ss.take j).filterMap freeT ++ [st].filterMap freeT := fun h => by rw [List.take_add_one, h, List.filterMap_append]; rfl
      have es2 : ∀ {st : Th}, ss[j]? = some st → stepAt rows x j = st := fun h => by
        unfold stepAt
        rw [c4]
        show ((ss)[j]?).getD .non = _
        rw [h]
        rfl
      refine ⟨T, _, rfl, .of upd_same, rfl, _, _, rfl, _, _, rfl, rfl, ?_⟩
      have eWT := yT _ _ eW
      have eST := yT _ _ eS
      have aWT := aW.same yT
      have aLT := aL.same yT
      generalize upd G T (.tup [V.int (j : Nat), k2]) = G1 at *
      rcases st_get c8 c9 g2' with ⟨f1, rfl⟩ | ⟨q2, m2, t', f1, rfl, f2, nq, m0, m1, t0, t1⟩
      · refine ⟨_, rfl, rfl, _, rfl, iteB (fun _ => ?_) (fun e => nomatch e)⟩
        refine ⟨wl ++ more, wv, Sf, sn, _, _, rfl, sT, eWT, eST, aWT, aLT, ⟨more, rfl⟩, hsn, wr, fun t mt => ?_⟩
        rw [tk f1, show [Th.non].filterMap freeT = [] from rfl, List.append_nil] at mt
        exact cl t mt
      · obtain ⟨t, rfl⟩ : ∃ t : Nat, t' = (t : Int) := ⟨t'.toNat, by omega⟩
        have f2' := sT _ _ f2
        refine ⟨_, rfl, rfl, _, rfl, iteB (fun e => nomatch e) (fun _ => ?_)⟩
        refine ⟨_, rfl, q2, _, 0, .int m2, rfl, rfl, .of f2', rfl, _, _, rfl, rfl, _, rfl, iteB (fun e2 => ?_) (fun e2 => ?_)⟩
        · refine ⟨wl ++ more, wv, Sf, sn, _, _, rfl, sT, eWT, eST, aWT, aLT, ⟨more, rfl⟩, hsn, wr, fun u mu => ?_⟩
          rw [tk f1, free_one rfl, if_neg (by have := of_decide_eq_true e2; omega), List.append_nil] at mu
          exact cl u mu
        · have hm : m2 = 0 := by have := of_decide_eq_false e2; omega
          subst hm
          have fr1 : [Th.tup [.int 0, .int (t : Int)]].filterMap freeT = [t] := by
            rw [free_one rfl, if_pos rfl, Int.toNat_natCast]
          have fw : fwalk rows st0 (ls ++ [.int (j : Nat)]) = some t := by
            rw [fwalk_app rows ls _ st0 x fx, fwalk_one (es2 f1), Int.toNat_natCast]
          have hj8 : (j : Int) < z := by
            have := (List.getElem?_eq_some_iff.mp f1).1
            omega
          have zone : ∀ {G' : Hp}, Same G1 G' → ∀ a, (a = Wy ∨ a = S ∨ Trk H a) → Trk G' a := fun s2 a h => by
            rcases h with rfl | rfl | h
            · exact .of (s2 _ _ eWT)
            · exact .of (s2 _ _ eST)
            · exact Trk.same (sT.trans s2) h
          dsimp only [tNext]
          refine ⟨_, rfl, q2, _, 1, .int t, rfl, rfl, .of f2', rfl, _, rfl, rfl, _, rfl, iteB (fun e3 => ?_) (fun e3 => ?_)⟩
          · have ht : (t : Int) = (st0 : Int) := decI (A := True) e3
            have ht' : t = st0 := by omega
            subst ht'
            refine ⟨_, rfl, _, rfl, (by show 1 ≤ sizeLine; decide), fun p1 n1 => ?_⟩
            have yp := same_new n1 (.tup [V.int (j : Nat)])
            refine ⟨fun a => a = Wy ∨ a = S ∨ Trk H a, ls, [.int (j : Nat)], aLT.same yp, ⟨p1, _, rfl, fun h => Trk.not n1 (zone (Same.refl _) _ h), upd_same, .cons rfl .nil⟩, zone yp, by rw [List.length_singleton]; omega, fun v2 G2 s2 a2 => ?_⟩
            exact q1 v2 G2 (ls ++ [.int (j : Nat)]) (sT.trans (yp.trans s2)) (a2.less fun a h => .inr (.inr h)) (Lx.app (Lets.one (by omega) hj8)) (by simp) (by rw [List.length_append, List.length_singleton]; omega) fw
          · have ht : (t : Int) ≠ (st0 : Int) := decI0 e3
            have ht' : t ≠ st0 := fun e => ht (by rw [e])
            refine ⟨_, rfl, q2, _, 1, .int t, rfl, rfl, .of f2', rfl, _, rfl, _, S, Sf, sn, rfl, rfl, eST, _, rfl, iteB (fun e4 => ?_) (fun e4 => ?_)⟩
            · have nt : t ∉ sts (wl ++ more) := fun mt => by
                rw [(wr.seen t).mpr mt] at e4
                cases e4
              refine ⟨_, rfl, ⟨_, _, _, rfl, eST⟩, _, rfl, q2, _, 1, .int t, rfl, rfl, .of f2', rfl, S, t, Sf, sn, rfl, rfl, eST, ?_, ?_⟩
              · show sn + 1 < 4096
                omega
              have sU : SB (fun a => a = Wy ∨ a = S ∨ Trk H a) G1 (upd G1 S (SetO w S (fun j => Sf j || decide (j = (t : Int))) (if Sf (t : Int) = true then sn else sn + 1))) := .self (Z := fun a => a = Wy ∨ a = S ∨ Trk H a) (.inr (.inl rfl)) _
              have sg2 : Same H (upd G1 S (SetO w S (fun j => Sf j || decide (j = (t : Int))) (if Sf (t : Int) = true then sn else sn + 1))) := Same.upd_new sT nSH _
              have eW2 : (upd G1 S (SetO w S (fun j => Sf j || decide (j = (t : Int))) (if Sf (t : Int) = true then sn else sn + 1))) Wy = some (.lst wv) := by rw [upd_ne (Ne.symm nSW)]; exact eWT
              have eS2 : (upd G1 S (SetO w S (fun j => Sf j || decide (j = (t : Int))) (if Sf (t : Int) = true then sn else sn + 1))) S = some (SetO w S (fun j => Sf j || decide (j = (t : Int))) (if Sf (t : Int) = true then sn else sn + 1)) := upd_same
              have sn2 : (if Sf (t : Int) = true then sn else sn + 1) ≤ sn + 1 := by split <;> omega
              have aW2 := aWT.sb sU
              have aL2 := aLT.sb sU
              generalize (if Sf (t : Int) = true then sn else sn + 1) = sn' at *
              generalize upd G1 S (SetO w S (fun j => Sf j || decide (j = (t : Int))) sn') = G2 at *
              have f22 := sg2 _ _ f2
              have zone2 : ∀ {G' : Hp}, Same G2 G' → ∀ a, (a = Wy ∨ a = S ∨ Trk H a) → Trk G' a := fun s2 a h => by
                rcases h with rfl | rfl | h
                · exact .of (s2 _ _ eW2)
                · exact .of (s2 _ _ eS2)
                · exact Trk.same (sg2.trans s2) h
              refine ⟨_, rfl, .inl ⟨rfl, _, .inl (.inl eW2)⟩, ?_⟩
              refine ⟨_, rfl, q2, _, 1, .int t, rfl, rfl, .of f22, rfl, _, rfl, _, rfl, (by show 1 ≤ sizeLine; decide), fun p1 n1 => ?_⟩
              have yp := same_new n1 (.tup [V.int (j : Nat)])
              refine ⟨fun a => a = Wy ∨ a = S ∨ Trk H a, ls, [.int (j : Nat)], aL2.same yp, ⟨p1, _, rfl, fun h => Trk.not n1 (zone2 (Same.refl _) _ h), upd_same, .cons rfl .nil⟩, zone2 yp, by rw [List.length_singleton]; omega, fun v2 G3 s3' a3 => ⟨(by show 2 ≤ sizeLine; decide), fun p3 n3 => ?_⟩⟩
              have y3 := same_new n3 (.tup [V.int (t : Int), v2])
              have s23 := (yp.trans s3').trans y3
              refine ⟨Wy, _, .ref p3, rfl, rfl, s23 _ _ eW2, by rw [sizeLine_eq]; omega, ?_⟩
              have sV : SB (fun a => a = Wy ∨ a = S ∨ Trk H a) (upd G3 p3 (.tup [V.int (t : Int), v2])) (upd (upd G3 p3 (.tup [V.int (t : Int), v2])) Wy (.lst (wv ++ [.ref p3]))) := .self (Z := fun a => a = Wy ∨ a = S ∨ Trk H a) (.inl rfl) _
              have wr' := wr.add (ls := ls ++ [.int (j : Nat)]) ht' nt fw (Lx.app (Lets.one (by omega) hj8)) (by rw [List.length_append, List.length_singleton, List.length_append]; omega) (by omega) (by rw [List.length_append]; omega)
              refine ⟨(wl ++ more) ++ [(t, ls ++ [.int (j : Nat)])], _, _, sn', _, _, rfl, Same.upd_new (sg2.trans s23) nWH _, upd_same, by rw [upd_ne nSW]; exact s23 _ _ eS2, ?_, (aL2.same s23).sb sV, ⟨more ++ [(t, ls ++ [.int (j : Nat)])], by rw [List.append_assoc]⟩, by rw [List.length_append (as := wl ++ more), List.length_singleton]; omega, wr', fun u mu => ?_⟩
              · rw [List.map_append (l₁ := wl ++ more)]
                exact ((aW2.same s23).sb sV).append (.cons (At.sb sV ⟨p3, _, rfl, fun h => Trk.not n3 (zone2 (yp.trans s3') _ h), upd_same, .cons rfl (.cons (a3.same y3) .nil)⟩) .nil)
              · rw [tk f1, fr1, List.mem_append, List.mem_singleton] at mu
                rw [sts_app wr.pos]
                rcases mu with mu | rfl
                · exact ⟨(cl u mu).1, List.mem_append_left _ (cl u mu).2⟩
                · exact ⟨ht', by simp⟩
            · have mt : t ∈ sts (wl ++ more) := (wr.seen t).mp (not_false' e4)
              refine ⟨wl ++ more, wv, Sf, sn, _, _, rfl, sT, eWT, eST, aWT, aLT, ⟨more, rfl⟩, hsn, wr, fun u mu => ?_⟩
              rw [tk f1, fr1, List.mem_append, List.mem_singleton] at mu
              rcases mu with mu | rfl
              · exact cl u mu
              · exact ⟨ht', mt⟩
    · obtain ⟨wl', wv, Sf, sn, y7, y8, rfl, sG, eW, eS, aW, aL, ⟨more, rfl⟩, hsn, wr, cl⟩ := p2
      rw [lss, List.take_length] at cl
      refine ⟨_, ?_, wl ++ more, wv, i + 1, Sf, sn, _, _, _, _, rfl, sG, eW, eS, aW, by rw [List.length_append]; omega, rfl, hsn, { wr with clo := fun j q hj eq t mt => ?_ }⟩
      · omega
      · by_cases e : j = i
        · subst e
          rw [List.getElem?_append_left e1, ex] at eq
          cases eq
          rw [fns_get c4] at mt
          exact cl t mt
        · exact wr.clo j q (by omega) eq t mt
  · rw [c1, decide_eq_false_iff_not] at e1
    exact q0 (wr.none (by omega)) H3 s3
end
end KL
end
section
set_option maxHeartbeats 1000000
namespace KL
open PySem PySem.Spec PyProof.Rows L2
def spIdle (CM : Addr) : Sp := fun vs H Q E => ∃ (Z : Zone) (u : V) (e : Th), vs = [u] ∧ At Z H e u ∧ shortT e = true ∧
  (∀ z rows, e = .tup [.int z, .tup rows] → MOk z rows → (∀ v H' (s : Nat) ls, Same H H' → At (Trk H) H' (pairT (s, ls)) v → s < (trimL z rows).length → Lets z ls → ls ≠ [] → ls.length ≤ 100 → fwalk (trimL z rows) s ls = some s → Q v H') ∧ ((∀ s, s < (trimL z rows).length → ¬ FR (trimL z rows) s s) → ∀ H', Same H H' → Q .non H')) ∧
  (machB e = false → ∀ H', Same H H' → E (.ref CM) none H')
def spIsRing : Sp := fun vs H Q _ => ∃ (Z : Zone) (u v : V) (z : Int) (rows : List Th) (d : Th), vs = [u, v] ∧ At Z H (.tup [.int z, .tup rows]) u ∧ MOk z rows ∧ At Z H d v ∧ shortT d = true ∧ ∀ H', Same H H' → Q (.bl (ringT z rows d)) H'
def spIsIdle (CM : Addr) : Sp := fun vs H Q E => ∃ (Z : Zone) (u v : V) (e d : Th), vs = [u, v] ∧ At Z H e u ∧ At Z H d v ∧ shortT e = true ∧ shortT d = true ∧
  (∀ z rows, e = .tup [.int z, .tup rows] → MOk z rows → ∀ H', Same H H' → Q (.bl (ringT z (trimL z rows) d)) H') ∧ (machB e = false → ∀ H', Same H H' → E (.ref CM) none H')
/-- a def of a machine and a thing: it tells something, or that there is no machine -/
def spW (CM : Addr) : Sp := fun vs H Q E => ∃ (Z : Zone) (u v : V) (e d : Th), vs = [u, v] ∧ At Z H e u ∧ At Z H d v ∧ shortT e = true ∧ shortT d = true ∧ (machB e = true → ∀ x H', Same H H' → Q x H') ∧ (machB e = false → ∀ H', Same H H' → E (.ref CM) none H')
def spWord (P : Program) (w : World) (K : PySem.W.Frag) (mg : Str → Option Value) (base : Heap) (k : Nat) (CM : Addr) : Sp := fun vs H Q _ => ∃ (g : Addr) (Z : Zone) (u v : V) (e d : Th), vs = [.ref g, u, v] ∧ (∃ fd ps, FnOk P w K mg base (L2.CX P w) k g fd ps (spW CM) ∧ PySem.W.keepIn K (.ref g) = true ∧ Binds K fd ps []) ∧ At Z H e u ∧ At Z H d v ∧ shortT e = true ∧ shortT d = true ∧
  ∀ p x H', Same H H' → H' p = some (.tup [.str (if machB e = true then "told" else "machine"), x]) → Q (.ref p) H'
def tCallSL (i : Nat) (f : Addr) (sp : Sp) (E : L2.St → XK) (t : TA) : TE := fun σ H Q => σ[i]? = some (some (.ref f)) ∧ t σ H fun vs H1 => sp vs H1 Q (E σ)
section
variable {X : Cx} {k i : Nat} {f : Addr} {fd : FuncData} {x : Str} {ps : List Str} {sp : Sp} {e : Expr} {es : List Expr} {t : TA} {p pos : Pos} {W : WX}
/-- a call of a local name that holds a def that may raise, within a try -/
theorem pe_calSL (F : FnOk X.prog X.w X.K X.mg X.base (L2.CX X.prog X.w) k f fd ps sp) (hr : Room k X.A) (hN : X.N[i]? = some x) (hv : Vis X.env.scope x) (hk : PySem.W.keepIn X.K (.ref f) = true) (hb : Binds X.K fd ps []) (tk : Takes X W) (ha : PA X (e :: es) t)
    (hdb : (x == ("__debug__" : Str)) = false := by decide) (hcd : (x == ("__classdict__" : Str)) = false := by decide)
    (he : starEach (e :: es) X.env = (false, eval e X.env) :: starEach es X.env := by rfl) (hpl : (backTo pos (starEach es X.env)).any (·.1) = false := by rfl) : PE X (.Call (.Name x p) (e :: es) [] pos) (tCallSL i f sp (WE W) t) := by
  refine ⟨fun pins s σ H Q I h => ?_⟩
  obtain ⟨hs, ht⟩ := h
  refine wpAny_Call_Name_kw (thn ((pe_var (pos := p) hN hv hdb hcd).run pins s σ H (fun v H1 => v = .ref f ∧ H1 = H) I ⟨.ref f, hs, rfl, rfl⟩) fun u s1 ⟨v, H1, I1, r1, q1⟩ => ?_)
  obtain ⟨rfl, rfl⟩ := q1
  cases r1
  refine PySem.W.callWith_K (h₀ := X.base) I.ok.mod.kin hk (thn (ha.run pos pins s1 σ _ _ I1 ht) fun us s2 ⟨vs, H2, I2, r, q⟩ => ⟨I2.kIn, ?_⟩) he hpl
  exact run_fnS F hr hb (passAt tk σ) I2 r q
end
theorem some_dec (s t : Nat) : decide (V.int (s : Int) = V.int (t : Int)) = decide ((some s : Option Nat) = some t) := decide_eq_decide.mpr ⟨fun e => by injection e with e; congr 1; omega, fun e => by injection e with e; rw [e]⟩
theorem ringT_eq {z : Int} {rows : List Th} {s : Nat} {ls : List Th} (hs : s < rows.length) (hl : textB z (.tup ls) = true) (hn : ls ≠ []) : ringT z rows (.tup [.int (s : Nat), .tup ls]) = decide (fwalk rows s ls = some s) := by
  rw [ringT, inn, decide_eq_true (show (0 : Int) ≤ (s : Int) by omega), decide_eq_true (show (s : Int) ≤ (rows.length : Int) - 1 by omega), hl, show (num (.int (s : Nat))).toNat = s from Int.toNat_natCast s]
  cases ls with
  | nil => exact absurd rfl hn
  | cons a b => rw [show (!(a :: b).isEmpty) = true from rfl, Bool.true_and, Bool.true_and, Bool.true_and, Bool.true_and]
section
variable {P : Program} {w : World} {K : PySem.W.Frag} {mg : Str → Option Value} {base : Heap} {k : Nat}
theorem ok_idle {CM : Addr} (Z : Zs mg) (c_trimmed : Cal P w K mg base (L2.CX P w) k "trimmed" ["machine"] (spTrimmed CM)) (c_idle_round : Cal P w K mg base CX0 k "idle_round" ["rows", "start"] spRound) (d : Def K mg "idle" s_idle ["machine"]) : Cal P w K mg base (L2.CX P w) (k + 1) "idle" ["machine"] (spIdle CM) := by
  refine d.okX sc_idle (fun vs H Q E h => ?_) (fun f cdv A outer s H vs Q E hr h => ?_)
  · obtain ⟨_, _, _, rfl, _⟩ := h; rfl
  obtain ⟨Zn, u, e, rfl, hu, se, qr, qm⟩ := h
  refine ⟨_, (pss_cons (ps_set (i := 1) sc_idle.nd rfl (Or.inl rfl) (pe_ix ix_tup (pe_calE (E := E) c_trimmed hr (by rfl) (takes_of rfl rfl rfl rfl) (pa_cons (pv 0) pa_nil)) pe_int (fun _ _ => rfl)))
      (pss_cons (ps_for (passes_of rfl) rfl (pi_range1 (by rfl) Z.range (pa_cons (pe_callB (id := "len") call_len_seq (by rfl) Z.len (by decide +kernel) (pa_cons (pv 1) pa_nil)) pa_nil)) (pg_name (i := 2) sc_idle.nd rfl (Or.inl rfl)) (pss_cons (ps_set (i := 3) sc_idle.nd rfl (Or.inl rfl) (pe_cal c_idle_round hr (by rfl) (pa_cons (pv 1) (pa_cons (pv 2) pa_nil))))
      (pss_one (ps_if (pt_cmpR op_notN (pv 3) pe_non (nomark _)) (pss_one (ps_ret (pe_tup (pa_cons (pv 2) (pa_cons (pv 3) pa_nil))))) pss_nil))))
      (pss_one (ps_ret pe_non)))), ?_⟩
  refine ⟨_, rfl, Zn, u, e, rfl, hu, se, fun z rows e1 ok v H1 s1 a1 => ?_, fun mb H1 s1 => qm mb H1 s1⟩
  subst e1
  obtain ⟨q1, q0⟩ := qr z rows rfl ok
  have okT := trimL_ok ok
  have n30 := okT.n30
  obtain ⟨p, pr, us, rfl, ep, epr, ar, _⟩ := At.mach (show At (Trk H) H1 (.tup [.int z, .tup (trimL z rows)]) v from a1)
  generalize trimL z rows = TL at *
  have lu := ar.len
  refine ⟨p, _, 1, .ref pr, rfl, rfl, .of ep, rfl, ?_⟩
  refine ⟨_, rfl, pr, us, rfl, .inr (.of epr), _, rfl, by rw [lu]; omega, by rw [lu]; omega, ?_⟩
  rw [lu, Int.toNat_natCast]
  refine for_range (lo := 0) (n := TL.length) (fun i σ' H' => Same H1 H' ∧ ∃ y2 y3 : Option V, σ' = [some u, some (.ref pr), y2, y3] ∧ ∀ s, s < i → ¬ FR TL s s) ⟨Same.refl _, _, _, rfl, fun s hs => by omega⟩ (fun i σ' H' hi p' => ?_) (fun σ' H' p' => ?_)
  · obtain ⟨s', y2, y3, rfl, hn⟩ := p'
    have sH := s1.trans s'
    refine ⟨_, rfl, _, rfl, Trk H, pr, us, z, TL, i, by rw [Int.zero_add]; rfl, s' _ _ epr, ar.same s', okT, hi, fun v2 H2 ls s2 a2 L2' n2 l2 w2 => ?_, fun nr H2 s2 => ?_⟩
    · have nv : decide (v2 = V.non) = false := a2.isN
      refine ⟨_, rfl, rfl, _, rfl, iteB (fun _ => ?_) (fun e => absurd (e.symm.trans (show (!decide (v2 = V.non)) = true by rw [nv]; rfl)) (by decide))⟩
      refine ⟨_, rfl, _, rfl, (by show 2 ≤ sizeLine; decide), fun p3 n3 => ?_⟩
      have y3' := same_new n3 (.tup [V.int ((0 : Int) + (i : Nat)), v2])
      refine q1 _ _ i ls (sH.trans (s2.trans y3')) ⟨p3, _, rfl, fun t => Trk.not n3 (Trk.same (sH.trans s2) t), upd_same, .cons (show V.int ((0 : Int) + (i : Nat)) = V.int (i : Nat) by rw [Int.zero_add]) (.cons ((a2.less fun a t => Trk.same sH t).same y3') .nil)⟩ hi L2' n2 l2 w2
    · refine ⟨_, rfl, rfl, _, rfl, iteB (fun e => nomatch e) (fun _ => ?_)⟩
      refine ⟨s'.trans s2, _, _, rfl, fun s hs => ?_⟩
      by_cases e : s = i
      · subst e; exact nr
      · exact hn s (by omega)
  · obtain ⟨s', y2, y3, rfl, hn⟩ := p'
    exact q0 hn H' (s1.trans s')
theorem lay_lets {z : Int} {ls : List Th} (h : Lets z ls) : (py (.tup ls)).canLay0 = true := lay_tup fun x m => by
  obtain ⟨i, rfl, _⟩ := h x m
  exact lay_int i
theorem dp_lets {z : Int} : ∀ {ls : List Th}, Lets z ls → dpL ls = 0
  | [], _ => rfl
  | x :: xs, h => by
    obtain ⟨i, rfl, _⟩ := h x List.mem_cons_self
    rw [dpL, dp_lets fun y m => h y (List.mem_cons_of_mem _ m)]
    rfl
theorem eqv_ls (ls : List Th) : PyData.eqv (py (.tup ls)) (py (.tup [])) = ls.isEmpty := by
  cases ls with
  | nil => rw [py, pyL]; simp [PyData.eqv, PyData.eqvAll]
  | cons a b => rw [py, py, pyL, pyL]; simp [PyData.eqv, PyData.eqvAll]
end
end KL
end
section
set_option maxHeartbeats 1000000
namespace KL
open PySem PySem.Spec PyProof.Rows L2
/-- fractions that are not too great -/
def SmallF (dd : Th) : Prop := ∀ fs, dd = .tup fs → (∀ f ∈ fs, fracB f = true) → (∀ f ∈ fs, (topI f).natAbs < 2 ^ 4100) ∧ ∃ D : Nat, 0 < D ∧ D < 2 ^ 8900 ∧ ∀ f ∈ fs, (botI f).natAbs ∣ D
def spIsW (CM : Addr) : Sp := fun vs H Q E => ∃ (Z : Zone) (u v : V) (e dd : Th), vs = [u, v] ∧ At Z H e u ∧ At Z H dd v ∧ shortT e = true ∧ shortT dd = true ∧
  (∀ z rows, e = .tup [.int z, .tup rows] → MOk z rows → SmallF dd ∧ ∀ H', Same H H' → (PosR (trimL z rows) → dd = wosT (trimL z rows) → Q (.bl true) H') ∧ (¬ (PosR (trimL z rows) ∧ dd = wosT (trimL z rows)) → Q (.bl false) H')) ∧ (machB e = false → ∀ H', Same H H' → E (.ref CM) none H')
section
variable {P : Program} {w : World} {K : PySem.W.Frag} {mg : Str → Option Value} {base : Heap} {k : Nat} {t1 t2 t3 : Tok}
end
end KL
end
section
set_option maxHeartbeats 1000000
namespace KL
open PySem PySem.Spec PyProof.Rows L2
abbrev sc_law_drawN : List Str := ["_law_pot_here", "_law_much", "_law_turn", "_law_number", "_law_seed"]
abbrev s_law_draw : Stmt := topS 49
theorem sc_law_draw : FnScope ["_law_pot_here", "_law_much", "_law_turn", "_law_number", "_law_seed"] ["_law_pot_here", "_law_much"] (defScope s_law_draw) := ⟨rfl, rfl, rfl, by decide +kernel, rfl, by decide +kernel, by decide +kernel⟩
abbrev sc_law_anyN : List Str := ["_law_pot_here", "_law_items"]
abbrev s_law_any : Stmt := topS 50
theorem sc_law_any : FnScope ["_law_pot_here", "_law_items"] ["_law_pot_here", "_law_items"] (defScope s_law_any) := ⟨rfl, rfl, rfl, by decide +kernel, rfl, by decide +kernel, by decide +kernel⟩
/-- a pot: the great cells, the small ones, how many were drawn, a number -/
structure PotAt (P G S : Addr) (H : Hp) : Prop where
  ex : ∃ (gs ss : List Int) (t s : Int), H P = some (.lst [.ref G, .ref S, .int t, .int s]) ∧ H G = some (.lst (gs.map V.int)) ∧ H S = some (.lst (ss.map V.int)) ∧ G ≠ S ∧ 1 ≤ ss.length ∧ ss.length ≤ 64 ∧ (∀ x ∈ ss, 0 ≤ x ∧ x < 1000000007) ∧ 0 ≤ t ∧ 0 ≤ s ∧ s < 999983
theorem PotAt.ne {P G S : Addr} {H : Hp} (h : PotAt P G S H) : G ≠ P ∧ S ≠ P ∧ G ≠ S := by
  obtain ⟨gs, ss, t, s, e1, e2, e3, ne, l1, _⟩ := h.ex
  refine ⟨fun e => ?_, fun e => ?_, ne⟩
  · rw [e, e1] at e2
    injection e2 with e2; injection e2 with e2
    cases gs <;> cases e2
  · rw [e, e1] at e3
    injection e3 with e3; injection e3 with e3
    cases ss <;> cases e3
abbrev AtP (P G : Addr) : Zone := fun a => a = P ∨ a = G
theorem PotAt.same {P G S : Addr} {H H' : Hp} (h : PotAt P G S H) (s : Same H H') : PotAt P G S H' := by
  obtain ⟨gs, ss, t, n, e1, e2, e3, r⟩ := h.ex
  exact ⟨gs, ss, t, n, s _ _ e1, s _ _ e2, s _ _ e3, r⟩
def spPDraw : Sp := fun vs H Q _ => ∃ (P G S : Addr) (m : Int), vs = [.ref P, .int m] ∧ PotAt P G S H ∧ 0 < m ∧ m < 1073741824 ∧ ∀ r H', 0 ≤ r → r < m → SB (AtP P G) H H' → PotAt P G S H' → Q (.int r) H'
def spPAny : Sp := fun vs H Q _ => ∃ (P G S a : Addr) (xs : List V), vs = [.ref P, .ref a] ∧ PotAt P G S H ∧ H a = some (.lst xs) ∧ a ≠ P ∧ a ≠ G ∧ 1 ≤ xs.length ∧ xs.length ≤ 1000 ∧ ∀ v H', v ∈ xs → SB (AtP P G) H H' → PotAt P G S H' → Q v H'
section
variable {P : Program} {w : World} {K : PySem.W.Frag} {mg : Str → Option Value} {base : Heap} {k : Nat} {t1 t2 t3 : Tok}
theorem ok_law_draw' (Z : Zs mg) (d : Def K mg "_law_draw" s_law_draw ["_law_pot_here", "_law_much"]) : Cal P w K mg base CX0 (k + 1) "_law_draw" ["_law_pot_here", "_law_much"] spPDraw := by
  refine d.ok sc_law_draw (fun vs H Q E h => ?_) (fun f cdv A outer s H vs Q E hr h => ?_)
  · obtain ⟨_, _, _, _, rfl, _⟩ := h; rfl
  obtain ⟨P0, G, S, m, rfl, hp, m0, m1, q⟩ := h
  refine ⟨_, (pss_cons (ps_set (i := 2) sc_law_draw.nd rfl (Or.inl rfl) (pe_ix ix_list (pv 0) pe_int (fun _ _ => rfl)))
      (pss_cons (ps_asg (pe_op op_add (pv 2) pe_int) (pg_sub (pv 0) pe_int set_list))
      (pss_cons (ps_if (pt_cmpR op_gt (pe_callB (id := "len") call_len_seq (by rfl) Z.len (by decide +kernel) (pa_cons (pe_ix ix_list (pv 0) pe_int (fun _ _ => rfl)) pa_nil)) pe_int (nomark _)) (pss_cons (ps_set (i := 3) sc_law_draw.nd rfl (Or.inl rfl) (pe_ix ix_list (pe_ix ix_list (pv 0) pe_int (fun _ _ => rfl)) pe_int (fun _ _ => rfl)))
      (pss_cons (ps_asg (pe_op op_fdiv (pv 3) (pv 1)) (pg_sub (pe_ix ix_list (pv 0) pe_int (fun _ _ => rfl)) pe_int set_list))
      (pss_cons (ps_if (pt_cmpR op_lt (pv 3) (pv 1) (nomark _)) (pss_one (ps_expr (pe_bm PySem.F.plainAttrs_list PySem.F.slot_list_pop PySem.F.type_list_pop mt_popAt (pe_ix ix_list (pv 0) pe_int (fun _ _ => rfl)) (pa_cons pe_int pa_nil)))) pss_nil)
      (pss_one (ps_ret (pe_op op_mod (pe_callTy (T := "int") call_int1 (by rfl) Z.int (by decide +kernel) (pa_cons (pv 3) pa_nil)) (pv 1))))))) pss_nil)
      (pss_cons (ps_set (i := 4) sc_law_draw.nd rfl (Or.inl rfl) (pe_op op_add (pe_op op_add (pe_op op_mul (pe_ix ix_list (pe_ix ix_list (pv 0) pe_int (fun _ _ => rfl)) (pe_op op_mod (pe_callTy (T := "int") call_int1 (by rfl) Z.int (by decide +kernel) (pa_cons (pv 2) pa_nil)) (pe_callB (id := "len") call_len_seq (by rfl) Z.len (by decide +kernel) (pa_cons (pe_ix ix_list (pv 0) pe_int (fun _ _ => rfl)) pa_nil))) (fun _ _ => rfl)) pe_int) (pe_op op_mul pe_int (pv 2))) (pe_op op_mul (pe_ix ix_list (pv 0) pe_int (fun _ _ => rfl)) pe_int)))
      (pss_cons (ps_set (i := 3) sc_law_draw.nd rfl (Or.inl rfl) (pe_op op_mod (pe_callTy (T := "int") call_int1 (by rfl) Z.int (by decide +kernel) (pa_cons (pe_op op_add (pe_op op_mul (pv 4) pe_int) pe_int) pa_nil)) pe_int))
      (pss_cons (ps_set (i := 3) sc_law_draw.nd rfl (Or.inl rfl) (pe_op op_mod (pe_callTy (T := "int") call_int1 (by rfl) Z.int (by decide +kernel) (pa_cons (pe_op op_mul (pv 3) (pe_op op_add (pe_op op_fdiv (pv 3) pe_int) pe_int)) pa_nil)) pe_int))
      (pss_cons (ps_set (i := 3) sc_law_draw.nd rfl (Or.inl rfl) (pe_op op_mod (pe_callTy (T := "int") call_int1 (by rfl) Z.int (by decide +kernel) (pa_cons (pe_op op_add (pe_op op_mul (pv 3) (pe_op op_add (pe_op op_fdiv (pv 3) pe_int) pe_int)) (pv 2)) pa_nil)) pe_int))
      (pss_one (ps_ret (pe_op op_mod (pe_callTy (T := "int") call_int1 (by rfl) Z.int (by decide +kernel) (pa_cons (pe_op op_fdiv (pv 3) pe_int) pa_nil)) (pv 1))))))))))), ?_⟩
  obtain ⟨nGP, nSP, nGS⟩ := hp.ne
  obtain ⟨gs, ss, t, sn, e1, e2, e3, _, l1, l64, hx, t0, sn0, sn1⟩ := hp.ex
  refine ⟨_, rfl, P0, _, 2, .int t, rfl, rfl, .inl (.of e1), rfl, ?_⟩
  refine ⟨_, rfl, _, _, rfl, rfl, _, rfl, P0, _, 2, 2, rfl, rfl, e1, rfl, ?_⟩
  have sb1 : SB (AtP P0 G) H (upd H P0 (.lst [.ref G, .ref S, .int (t + 1), .int sn])) := .self (Z := AtP P0 G) (.inl rfl) _
  have f1 : (upd H P0 (.lst [.ref G, .ref S, .int (t + 1), .int sn])) P0 = some (.lst [.ref G, .ref S, .int (t + 1), .int sn]) := upd_same
  have f2 : (upd H P0 (.lst [.ref G, .ref S, .int (t + 1), .int sn])) G = some (.lst (gs.map V.int)) := by rw [upd_ne nGP]; exact e2
  have f3 : (upd H P0 (.lst [.ref G, .ref S, .int (t + 1), .int sn])) S = some (.lst (ss.map V.int)) := by rw [upd_ne nSP]; exact e3
  show tSeq _ _ _ _ (upd H P0 (.lst [.ref G, .ref S, .int (t + 1), .int sn]))
  generalize upd H P0 (.lst [.ref G, .ref S, .int (t + 1), .int sn]) = H1 at *
  refine ⟨_, rfl, P0, _, 0, .ref G, rfl, rfl, .inl (.of f1), rfl, G, _, rfl, .inl (.of f2), _, _, rfl, rfl, _, rfl, iteB (fun e => ?_) (fun e => ?_)⟩
  · have lt := of_decide_eq_true e
    cases gs with
    | nil => exact absurd lt (by decide)
    | cons g gr =>
      refine ⟨_, rfl, P0, _, 0, .ref G, rfl, rfl, .inl (.of f1), rfl, G, _, 0, .int g, rfl, rfl, .inl (.of f2), atI_nat (j := 0) rfl, ?_⟩
      refine ⟨_, rfl, _, rfl, _, _, rfl, rfl, ⟨m0, m1⟩, _, rfl, P0, _, 0, .ref G, rfl, rfl, .inl (.of f1), rfl, G, _, 0, 0, rfl, rfl, f2, ixT (j := 0) (by show 0 < (gr.map V.int).length + 1; omega), ?_⟩
      have sb2 : SB (AtP P0 G) H1 (upd H1 G (.lst ((g / m :: gr).map V.int))) := .self (Z := AtP P0 G) (.inr rfl) _
      have h1 : (upd H1 G (.lst ((g / m :: gr).map V.int))) P0 = some (.lst [.ref G, .ref S, .int (t + 1), .int sn]) := by rw [upd_ne (fun h => nGP h.symm)]; exact f1
      have h2 : (upd H1 G (.lst ((g / m :: gr).map V.int))) G = some (.lst ((g / m :: gr).map V.int)) := upd_same
      have h3 : (upd H1 G (.lst ((g / m :: gr).map V.int))) S = some (.lst (ss.map V.int)) := by rw [upd_ne (fun h => nGS h.symm)]; exact f3
      show tSeq _ _ _ _ (upd H1 G (.lst ((g / m :: gr).map V.int)))
      generalize upd H1 G (.lst ((g / m :: gr).map V.int)) = H2 at *
      have r0 := Int.emod_nonneg g (show m ≠ 0 by omega)
      have r1 := Int.emod_lt_of_pos g m0
      refine ⟨_, rfl, _, rfl, _, _, rfl, rfl, _, rfl, iteB (fun e => ?_) (fun e => ?_)⟩
      · refine ⟨_, rfl, P0, _, 0, .ref G, rfl, rfl, .inl (.of h1), rfl, .inl ⟨rfl, _, .inl (.inl h2)⟩, G, _, 0, 0, _, rfl, rfl, h2, by decide, by decide, (by rw [seqIndex_of (by decide) (by show (0 : Int) < (((g / m :: gr).map V.int).length : Nat); rw [List.length_map, List.length_cons]; omega)]; rfl), rfl, ?_⟩
        exact ⟨_, rfl, .inl ⟨_, rfl, _, rfl, _, _, rfl, rfl, m0, q _ _ r0 r1 ((sb1.trans sb2).trans (.self (Z := AtP P0 G) (.inr rfl) _)) ⟨gr, ss, t + 1, sn, by rw [upd_ne (fun h => nGP h.symm)]; exact h1, by rw [upd_same]; rfl, by rw [upd_ne (fun h => nGS h.symm)]; exact h3, nGS, l1, l64, hx, by omega, sn0, sn1⟩⟩⟩
      · exact ⟨_, rfl, .inl ⟨_, rfl, _, rfl, _, _, rfl, rfl, m0, q _ _ r0 r1 (sb1.trans sb2) ⟨g / m :: gr, ss, t + 1, sn, h1, h2, h3, nGS, l1, l64, hx, by omega, sn0, sn1⟩⟩⟩
  · have lt := of_decide_eq_false e
    have hix := Int.emod_nonneg t (show ((ss.length : Nat) : Int) ≠ 0 by omega)
    have hix2 := Int.emod_lt_of_pos t (show (0 : Int) < ((ss.length : Nat) : Int) by omega)
    obtain ⟨x, ex, i, rfl, i0, i1⟩ := pick (xs := ss.map V.int) (fun v => ∃ i : Int, v = V.int i ∧ 0 ≤ i ∧ i < 1000000007) hix (by rw [List.length_map]; exact hix2) (fun v m => by
      obtain ⟨j, mj, rfl⟩ := List.mem_map.mp m
      exact ⟨j, rfl, (hx j mj).1, (hx j mj).2⟩)
    have fP : PotAt P0 G S H1 := ⟨gs, ss, t + 1, sn, f1, f2, f3, nGS, l1, l64, hx, by omega, sn0, sn1⟩
    refine ⟨_, rfl, P0, _, 1, .ref S, rfl, rfl, .inl (.of f1), rfl, _, rfl, .inl ⟨_, rfl, _, rfl, P0, _, 1, .ref S, rfl, rfl, .inl (.of f1), rfl, S, _, rfl, .inl (.of f3), _, _, rfl, rfl, by rw [List.length_map]; omega, S, _, _, .int i, rfl, rfl, .inl (.of f3), by rw [List.length_map]; exact ex, _, _, rfl, rfl, .inr ⟨by decide, by decide⟩, _, rfl, _, _, rfl, rfl, .inl ⟨by decide, by decide⟩, _, _, rfl, rfl, _, rfl, P0, _, 3, .int sn, rfl, rfl, .inl (.of f1), rfl, _, _, rfl, rfl, .inr ⟨by decide, by decide⟩, _, _, rfl, rfl, ?_⟩⟩
    generalize i * 7919 + 104729 * t + sn * 31 = sd
    refine ⟨_, rfl, _, _, rfl, rfl, .inr ⟨by decide, by decide⟩, _, _, rfl, rfl, .inl ⟨_, rfl, _, _, rfl, rfl, (by show (0 : Int) < _; decide), ?_⟩⟩
    have b0 := Int.emod_nonneg (sd * 48271 + 11) (show (2147483647 : Int) ≠ 0 by decide)
    have b1 := Int.emod_lt_of_pos (sd * 48271 + 11) (show (0 : Int) < 2147483647 by decide)
    generalize (sd * 48271 + 11) % 2147483647 = n1 at *
    refine ⟨_, rfl, _, rfl, _, _, rfl, rfl, ⟨by decide, by decide⟩, _, _, rfl, rfl, _, _, rfl, rfl, .inl ⟨by omega, by omega⟩, .inl ⟨_, rfl, _, _, rfl, rfl, (by show (0 : Int) < _; decide), ?_⟩⟩
    have c0 := Int.emod_nonneg (n1 * (n1 / 1009 + 69621)) (show (2147483629 : Int) ≠ 0 by decide)
    have c1 := Int.emod_lt_of_pos (n1 * (n1 / 1009 + 69621)) (show (0 : Int) < 2147483629 by decide)
    generalize n1 * (n1 / 1009 + 69621) % 2147483629 = n2 at *
    refine ⟨_, rfl, _, rfl, _, _, rfl, rfl, ⟨by decide, by decide⟩, _, _, rfl, rfl, _, _, rfl, rfl, .inl ⟨by omega, by omega⟩, _, rfl, _, _, rfl, rfl, .inl ⟨_, rfl, _, _, rfl, rfl, (by show (0 : Int) < _; decide), ?_⟩⟩
    generalize (n2 * (n2 / 2003 + 40692) + t) % 2147483399 = n3
    exact ⟨_, rfl, _, _, rfl, rfl, ⟨by decide, by decide⟩, .inl ⟨_, rfl, _, rfl, _, _, rfl, rfl, m0, q _ _ (Int.emod_nonneg _ (by omega)) (Int.emod_lt_of_pos _ m0) sb1 fP⟩⟩
theorem ok_law_any' (Z : Zs mg) (c_law_draw : Cal P w K mg base CX0 k "_law_draw" ["_law_pot_here", "_law_much"] spPDraw) (d : Def K mg "_law_any" s_law_any ["_law_pot_here", "_law_items"]) : Cal P w K mg base CX0 (k + 1) "_law_any" ["_law_pot_here", "_law_items"] spPAny := by
  refine d.ok sc_law_any (fun vs H Q E h => ?_) (fun f cdv A outer s H vs Q E hr h => ?_)
  · obtain ⟨_, _, _, _, _, rfl, _⟩ := h; rfl
  obtain ⟨P0, G, S, a, xs, rfl, hp, ea, na, ng, l1, l2, q⟩ := h
  refine ⟨_, (pss_one (ps_ret (pe_ix ix_list (pv 1) (pe_cal c_law_draw hr (by rfl) (pa_cons (pv 0) (pa_cons (pe_callB (id := "len") call_len_seq (by rfl) Z.len (by decide +kernel) (pa_cons (pv 1) pa_nil)) pa_nil))) (fun _ _ => rfl)))), ?_⟩
  refine ⟨_, rfl, _, rfl, _, rfl, a, xs, rfl, .inl (.of ea), P0, G, S, _, rfl, hp, by omega, by omega, fun r H1 r0 r1 s1 p1 => ?_⟩
  obtain ⟨v, ev, mv⟩ := pick (xs := xs) (fun v => v ∈ xs) r0 r1 fun _ m => m
  exact ⟨a, xs, r, v, rfl, rfl, .inl (.of (s1 _ _ (fun h => h.elim na ng) ea)), ev, q v H1 mv s1 p1⟩
end
end KL
end
section
set_option maxHeartbeats 1000000
namespace KL
open PySem PySem.Spec PyProof.Rows L2
abbrev sc_law_menuN : List Str := ["_law_pot_here"]
abbrev s_law_menu : Stmt := topS 53
theorem sc_law_menu : FnScope ["_law_pot_here"] ["_law_pot_here"] (defScope s_law_menu) := ⟨rfl, rfl, rfl, by decide +kernel, rfl, by decide +kernel, by decide +kernel⟩
def spPMenu : Sp := fun vs H Q _ => ∃ (P G S : Addr), vs = [.ref P] ∧ PotAt P G S H ∧ ∀ a H' (ms : List Int), SB (AtP P G) H H' → PotAt P G S H' → H a = none → H' a = some (.lst (ms.map V.int)) → 1 ≤ ms.length → ms.length ≤ 10 → (∀ m ∈ ms, 0 ≤ m ∧ m ≤ 60) → Q (.ref a) H'
/-- ends that are not greater -/
def EndsLe (b : Int) (rows : List Th) : Prop := ∀ r ∈ rows, ∀ e, endOf r = .int e → e ≤ b
def spPMach : Sp := fun vs H Q _ => ∃ (P G S a : Addr) (mo : Int) (ms : List Int), vs = [.ref P, .int mo, .ref a] ∧ PotAt P G S H ∧ 1 ≤ mo ∧ mo ≤ 30 ∧ H a = some (.lst (ms.map V.int)) ∧ a ≠ P ∧ a ≠ G ∧ 1 ≤ ms.length ∧ ms.length ≤ 10 ∧ (∀ m ∈ ms, 0 ≤ m ∧ m ≤ 60) ∧
  ∀ v z rows H', SB (AtP P G) H H' → PotAt P G S H' → At (AtP P G) H' (.tup [.int z, .tup rows]) v → MOk z rows → (rows.length : Int) ≤ mo → EndsLe 9 rows → Q v H'
theorem PotAt.trk {P G S : Addr} {H : Hp} (h : PotAt P G S H) : ∀ a, AtP P G a → Trk H a := fun a e => by
  obtain ⟨gs, ss, t, n, e1, e2, e3, r⟩ := h.ex
  rcases e with rfl | rfl
  · exact .of e1
  · exact .of e2
theorem PotAt.new {P G S p : Addr} {H H0 : Hp} (h : PotAt P G S H) (h0 : PotAt P G S H0) (hp : H0 p = none) (o : HO) : PotAt P G S (upd H p o) := by
  obtain ⟨gs, ss, t, n, e1, e2, e3, r⟩ := h.ex
  obtain ⟨_, _, _, _, f1, f2, f3, _⟩ := h0.ex
  exact ⟨gs, ss, t, n, by rw [upd_ne (fun x => by rw [x, hp] at f1; cases f1)]; exact e1, by rw [upd_ne (fun x => by rw [x, hp] at f2; cases f2)]; exact e2, by rw [upd_ne (fun x => by rw [x, hp] at f3; cases f3)]; exact e3, r⟩
theorem PotAt.ne_new {P G S p : Addr} {H : Hp} (h : PotAt P G S H) (hp : H p = none) : p ≠ P ∧ p ≠ G := ⟨fun e => h.trk p (.inl e) hp, fun e => h.trk p (.inr e) hp⟩
section
variable {P : Program} {w : World} {K : PySem.W.Frag} {mg : Str → Option Value} {base : Heap} {k : Nat} {t1 t2 t3 : Tok}
theorem ok_law_menu' (c_law_any : Cal P w K mg base CX0 k "_law_any" ["_law_pot_here", "_law_items"] spPAny) (d : Def K mg "_law_menu" s_law_menu ["_law_pot_here"]) : Cal P w K mg base CX0 (k + 1) "_law_menu" ["_law_pot_here"] spPMenu := by
  refine d.ok sc_law_menu (fun vs H Q E h => ?_) (fun f cdv A outer s H vs Q E hr h => ?_)
  · obtain ⟨_, _, _, rfl, _⟩ := h; rfl
  obtain ⟨P0, G, S, rfl, hp, q⟩ := h
  refine ⟨_, (pss_one (ps_ret (pe_cal c_law_any hr (by rfl) (pa_cons (pv 0) (pa_cons (pe_lst (pa_cons (pe_lst (pa_cons pe_int (pa_cons pe_int (pa_cons pe_int (pa_cons pe_int pa_nil))))) (pa_cons (pe_lst (pa_cons pe_int (pa_cons pe_int (pa_cons pe_int (pa_cons pe_int pa_nil))))) (pa_cons (pe_lst (pa_cons pe_int (pa_cons pe_int (pa_cons pe_int (pa_cons pe_int pa_nil))))) (pa_cons (pe_lst (pa_cons pe_int (pa_cons pe_int (pa_cons pe_int (pa_cons pe_int pa_nil))))) (pa_cons (pe_lst (pa_cons pe_int (pa_cons pe_int (pa_cons pe_int (pa_cons pe_int pa_nil))))) (pa_cons (pe_lst (pa_cons pe_int (pa_cons pe_int (pa_cons pe_int (pa_cons pe_int pa_nil))))) pa_nil))))))) pa_nil))))), ?_⟩
  refine ⟨_, rfl, (by show 4 ≤ sizeLine; decide), fun a1 n1 => ⟨(by show 4 ≤ sizeLine; decide), fun a2 n2 => ⟨(by show 4 ≤ sizeLine; decide), fun a3 n3 => ⟨(by show 4 ≤ sizeLine; decide), fun a4 n4 => ⟨(by show 4 ≤ sizeLine; decide), fun a5 n5 => ⟨(by show 4 ≤ sizeLine; decide), fun a6 n6 => ⟨(by show 6 ≤ sizeLine; decide), fun a7 n7 => ?_⟩⟩⟩⟩⟩⟩⟩
  have y1 := same_new n1 (.lst ([0, 1, 1, 2].map V.int))
  have y2 := same_new n2 (.lst ([1, 1, 2, 3].map V.int))
  have y3 := same_new n3 (.lst ([2, 2, 3, 4].map V.int))
  have y4 := same_new n4 (.lst ([3, 4, 5, 9].map V.int))
  have y5 := same_new n5 (.lst ([0, 2, 5, 60].map V.int))
  have y6 := same_new n6 (.lst ([1, 2, 3, 3].map V.int))
  have y7 := same_new n7 (.lst [V.ref a1, V.ref a2, V.ref a3, V.ref a4, V.ref a5, V.ref a6])
  have z2 := y1.trans y2
  have z3 := z2.trans y3
  have z4 := z3.trans y4
  have z5 := z4.trans y5
  have z6 := z5.trans y6
  have z7 := z6.trans y7
  have p7 := hp.same z7
  have nn := (hp.same z6).ne_new n7
  refine ⟨P0, G, S, a7, _, rfl, p7, upd_same, nn.1, nn.2, (by show 1 ≤ 6; decide), (by show 6 ≤ 1000; decide), fun v H' mv sB pB => ?_⟩
  have go : ∀ (a : Addr) (ms : List Int), H a = none → (upd (upd (upd (upd (upd (upd (upd H a1 (.lst ([0, 1, 1, 2].map V.int))) a2 (.lst ([1, 1, 2, 3].map V.int))) a3 (.lst ([2, 2, 3, 4].map V.int))) a4 (.lst ([3, 4, 5, 9].map V.int))) a5 (.lst ([0, 2, 5, 60].map V.int))) a6 (.lst ([1, 2, 3, 3].map V.int))) a7 (.lst [V.ref a1, V.ref a2, V.ref a3, V.ref a4, V.ref a5, V.ref a6])) a = some (.lst (ms.map V.int)) → 1 ≤ ms.length → ms.length ≤ 10 → (∀ m ∈ ms, 0 ≤ m ∧ m ≤ 60) → Q (.ref a) H' := fun a ms na ea l1 l2 hm => by
    have n := hp.ne_new na
    exact q a H' ms ((SB.of z7).trans sB) pB na (sB _ _ (fun h => h.elim n.1 n.2) ea) l1 l2 hm
  have hm : v = .ref a1 ∨ v = .ref a2 ∨ v = .ref a3 ∨ v = .ref a4 ∨ v = .ref a5 ∨ v = .ref a6 := by simpa using mv
  rcases hm with rfl | rfl | rfl | rfl | rfl | rfl
  · exact go a1 [0, 1, 1, 2] n1 (((((y2.trans y3).trans y4).trans y5).trans y6).trans y7 _ _ upd_same) (by decide) (by decide) (by decide)
  · exact go a2 [1, 1, 2, 3] (Same.free y1 n2) ((((y3.trans y4).trans y5).trans y6).trans y7 _ _ upd_same) (by decide) (by decide) (by decide)
  · exact go a3 [2, 2, 3, 4] (Same.free z2 n3) (((y4.trans y5).trans y6).trans y7 _ _ upd_same) (by decide) (by decide) (by decide)
  · exact go a4 [3, 4, 5, 9] (Same.free z3 n4) ((y5.trans y6).trans y7 _ _ upd_same) (by decide) (by decide) (by decide)
  · exact go a5 [0, 2, 5, 60] (Same.free z4 n5) (y6.trans y7 _ _ upd_same) (by decide) (by decide) (by decide)
  · exact go a6 [1, 2, 3, 3] (Same.free z5 n6) (y7 _ _ upd_same) (by decide) (by decide) (by decide)
end
end KL
end
section
set_option maxHeartbeats 1000000
namespace KL
open PySem PySem.Spec PyProof.Rows L2
abbrev sc_law_machineN : List Str := ["_law_pot_here", "_law_most", "_law_mores", "_law_size", "_law_states", "_law_rows", "_law_state", "_law_steps", "_law_letter", "_law_step", "_law_end"]
abbrev s_law_machine : Stmt := topS 52
theorem sc_law_machine : FnScope ["_law_pot_here", "_law_most", "_law_mores", "_law_size", "_law_states", "_law_rows", "_law_state", "_law_steps", "_law_letter", "_law_step", "_law_end"] ["_law_pot_here", "_law_most", "_law_mores"] (defScope s_law_machine) := ⟨rfl, rfl, rfl, by decide +kernel, rfl, by decide +kernel, by decide +kernel⟩
section
variable {P : Program} {w : World} {K : PySem.W.Frag} {mg : Str → Option Value} {base : Heap} {k : Nat} {t1 t2 t3 : Tok}
theorem ok_law_machine' (Z : Zs mg) (c_law_draw : Cal P w K mg base CX0 k "_law_draw" ["_law_pot_here", "_law_much"] spPDraw) (c_law_any : Cal P w K mg base CX0 k "_law_any" ["_law_pot_here", "_law_items"] spPAny) (d : Def K mg "_law_machine" s_law_machine ["_law_pot_here", "_law_most", "_law_mores"]) : Cal P w K mg base CX0 (k + 1) "_law_machine" ["_law_pot_here", "_law_most", "_law_mores"] spPMach := by
  refine d.ok sc_law_machine (fun vs H Q E h => ?_) (fun f cdv A outer s H vs Q E hr h => ?_)
  · obtain ⟨_, _, _, _, _, _, rfl, _⟩ := h; rfl
  obtain ⟨P0, G, S, a, mo, ms, rfl, hp, mo1, mo2, ea, na, ng, lm1, lm2, hm, q⟩ := h
  refine ⟨_, (pss_cons (ps_par (i := 3) (j := 4) rfl sc_law_machine.nd rfl rfl (by decide) rfl rfl (pa_cons (pe_cal c_law_any hr (by rfl) (pa_cons (pv 0) (pa_cons (pe_lst (pa_cons pe_int (pa_cons pe_int (pa_cons pe_int (pa_cons pe_int (pa_cons pe_int (pa_cons pe_int (pa_cons pe_int pa_nil)))))))) pa_nil))) (pa_cons (pe_op op_add pe_int (pe_cal c_law_draw hr (by rfl) (pa_cons (pv 0) (pa_cons (pv 1) pa_nil)))) pa_nil)) (by rfl))
      (pss_cons (ps_set (i := 5) sc_law_machine.nd rfl (Or.inl rfl) (pe_lst pa_nil))
      (pss_cons (ps_for PassesOwn.never rfl (pi_range1 (by rfl) Z.range (pa_cons (pv 4) pa_nil)) (pg_name (i := 6) sc_law_machine.nd rfl (Or.inl rfl)) (pss_cons (ps_set (i := 7) sc_law_machine.nd rfl (Or.inl rfl) (pe_lst pa_nil))
      (pss_cons (ps_for PassesOwn.never rfl (pi_range1 (by rfl) Z.range (pa_cons (pv 3) pa_nil)) (pg_name (i := 8) sc_law_machine.nd rfl (Or.inl rfl)) (pss_cons (ps_set (i := 9) sc_law_machine.nd rfl (Or.inl rfl) (pe_tup (pa_cons (pe_cal c_law_any hr (by rfl) (pa_cons (pv 0) (pa_cons (pv 2) pa_nil))) (pa_cons (pe_cal c_law_draw hr (by rfl) (pa_cons (pv 0) (pa_cons (pv 4) pa_nil))) pa_nil))))
      (pss_one (ps_expr (pe_bm PySem.F.plainAttrs_list PySem.F.slot_list_append PySem.F.type_list_append mt_append (pv 7) (pa_cons (pe_ifExp (pt_cmpR op_eq (pe_cal c_law_draw hr (by rfl) (pa_cons (pv 0) (pa_cons pe_int pa_nil))) pe_int (nomark _)) pe_non (pv 9)) pa_nil))))))
      (pss_cons (ps_set (i := 10) sc_law_machine.nd rfl (Or.inl rfl) (pe_cal c_law_any hr (by rfl) (pa_cons (pv 0) (pa_cons (pe_lst (pa_cons pe_non (pa_cons pe_int (pa_cons pe_int (pa_cons pe_int (pa_cons pe_int (pa_cons pe_int (pa_cons pe_int pa_nil)))))))) pa_nil))))
      (pss_one (ps_expr (pe_bm PySem.F.plainAttrs_list PySem.F.slot_list_append PySem.F.type_list_append mt_append (pv 5) (pa_cons (pe_tup (pa_cons (pv 10) (pa_cons (pe_callTy (T := "tuple") call_tuple_of (by rfl) Z.tuple (by decide +kernel) (pa_cons (pv 7) pa_nil)) pa_nil))) pa_nil))))))))
      (pss_one (ps_ret (pe_tup (pa_cons (pv 3) (pa_cons (pe_callTy (T := "tuple") call_tuple_of (by rfl) Z.tuple (by decide +kernel) (pa_cons (pv 5) pa_nil)) pa_nil)))))))), ?_⟩
  -- size, states
  refine ⟨_, rfl, (by show 7 ≤ sizeLine; decide), fun b1 n1 => ?_⟩
  have y1 := same_new n1 (.lst [V.int 1, V.int 2, V.int 2, V.int 2, V.int 3, V.int 4, V.int 8])
  have nn1 := hp.ne_new n1
  refine ⟨P0, G, S, b1, _, rfl, hp.same y1, upd_same, nn1.1, nn1.2, (by show 1 ≤ 7; decide), (by show 7 ≤ 1000; decide), fun v H1 mv s1 p1 => ?_⟩
  obtain ⟨sz, rfl, sz1, sz8⟩ : ∃ sz : Int, v = .int sz ∧ 1 ≤ sz ∧ sz ≤ 8 := by
    have : v = .int 1 ∨ v = .int 2 ∨ v = .int 3 ∨ v = .int 4 ∨ v = .int 8 := by simpa using mv
    rcases this with rfl | rfl | rfl | rfl | rfl <;> exact ⟨_, rfl, by decide, by decide⟩
  have s01 : SB (AtP P0 G) H H1 := (SB.of y1).trans s1
  refine ⟨_, rfl, _, rfl, P0, G, S, mo, rfl, p1, by omega, by omega, fun r2 H2 a2 b2 s2 p2 => ⟨_, _, rfl, rfl, _, _, rfl, ?_⟩⟩
  obtain ⟨n, rfl⟩ : ∃ n : Nat, r2 = (n : Int) := ⟨r2.toNat, by omega⟩
  have s02 := s01.trans s2
  -- rows = []
  refine ⟨(by show 0 ≤ sizeLine; decide), fun L nL => ?_⟩
  have yL := same_new nL (.lst [])
  have nnL := p2.ne_new nL
  have p3 := p2.same yL
  have s03 : SB (AtP P0 G) H (upd H2 L (.lst [])) := s02.trans (.of yL)
  have naP : ¬ AtP P0 G a := fun h => h.elim na ng
  have ea3 := s03 _ _ naP ea
  have naL : a ≠ L := fun h => by rw [h] at ea; exact absurd (s02 _ _ (by rw [← h]; exact naP) ea) (by rw [nL]; exact fun h => nomatch h)
  have eL : (upd H2 L (.lst [])) L = some (.lst []) := upd_same
  generalize upd H2 L (.lst []) = H3 at *
  refine ⟨_, rfl, _, rfl, by omega, by omega, ?_⟩
  refine for_range (lo := 0) (n := (1 + (n : Int)).toNat) (fun i σ' H' => SB (fun b => AtP P0 G b ∨ b = L) H3 H' ∧ PotAt P0 G S H' ∧ ∃ (vs : List V) (ts : List Th) (y6 y7 y8 y9 y10 : Option V), σ' = [some (.ref P0), some (.int mo), some (.ref a), some (.int sz), some (.int (1 + (n : Int))), some (.ref L), y6, y7, y8, y9, y10] ∧ H' L = some (.lst vs) ∧ AtAll (fun b => AtP P0 G b ∨ b = L) H' ts vs ∧ ts.length = i ∧ ∀ t ∈ ts, rowB sz (1 + (n : Int)) t = true ∧ ∀ e, endOf t = .int e → e ≤ 9)
    ⟨.rfl', p3, [], [], none, none, none, none, none, rfl, eL, .nil, rfl, fun t h => nomatch h⟩ (fun i σ' H' hi hh => ?_) (fun σ' H' hh => ?_)
  · obtain ⟨sA, pA, vs, ts, y6, y7, y8, y9, y10, rfl, eLA, aL, lL, gL⟩ := hh
    refine ⟨(by show 0 ≤ sizeLine; decide), fun T nT => ?_⟩
    have yT := same_new nT (.lst [])
    have nnT := pA.ne_new nT
    have nTL : T ≠ L := fun h => by rw [h, eLA] at nT; cases nT
    have eaA := sA _ _ (fun h => h.elim naP naL) ea3
    have naT : a ≠ T := fun h => by rw [h, nT] at eaA; cases eaA
    have pT := pA.same yT
    have eLT := yT _ _ eLA
    have aLT := aL.same yT
    have eaT := yT _ _ eaA
    have eT : (upd H' T (.lst [])) T = some (.lst []) := upd_same
    have sAT : SB (fun b => AtP P0 G b ∨ b = L) H3 (upd H' T (.lst [])) := sA.trans (.of yT)
    generalize upd H' T (.lst []) = H4 at *
    refine ⟨_, rfl, _, rfl, by omega, by omega, ?_⟩
    refine for_range (lo := 0) (n := sz.toNat) (fun j σ2 G2 => SB (fun b => AtP P0 G b ∨ b = T) H4 G2 ∧ PotAt P0 G S G2 ∧ ∃ (vs2 : List V) (ts2 : List Th) (y8 y9 : Option V), σ2 = [some (.ref P0), some (.int mo), some (.ref a), some (.int sz), some (.int (1 + (n : Int))), some (.ref L), some (.int (0 + (i : Nat))), some (.ref T), y8, y9, y10] ∧ G2 T = some (.lst vs2) ∧ AtAll (fun b => b = T ∨ (AtP P0 G b ∨ b = L)) G2 ts2 vs2 ∧ ts2.length = j ∧ ∀ t ∈ ts2, StepIs (1 + (n : Int)) t)
      ⟨.rfl', pT, [], [], _, _, rfl, eT, .nil, rfl, fun t h => nomatch h⟩ (fun j σ2 G2 hj h2 => ?_) (fun σ2 G2 h2 => ?_)
    · obtain ⟨sG, pG, vs2, ts2, y8, y9, rfl, eTG, aG, lG, gG⟩ := h2
      have eaG := sG _ _ (fun h => h.elim naP naT) eaT
      refine ⟨_, rfl, _, rfl, P0, G, S, a, _, rfl, pG, eaG, na, ng, by rw [List.length_map]; exact lm1, by rw [List.length_map]; omega, fun v1 G3 mv1 s3 p3' => ?_⟩
      obtain ⟨m1, mm1, rfl⟩ := List.mem_map.mp mv1
      obtain ⟨m10, m11⟩ := hm m1 mm1
      refine ⟨_, rfl, _, rfl, P0, G, S, _, rfl, p3', by omega, by omega, fun r4 G4 a4 b4 s4 p4 => ⟨(by show 2 ≤ sizeLine; decide), fun p5 n5 => ?_⟩⟩
      have y5 := same_new n5 (.tup [V.int m1, V.int r4])
      have p5' := p4.same y5
      have nn5 := p4.ne_new n5
      have sB : SB (AtP P0 G) G2 (upd G4 p5 (.tup [V.int m1, V.int r4])) := (s3.trans s4).trans (.of y5)
      have e5 : (upd G4 p5 (.tup [V.int m1, V.int r4])) p5 = some (.tup [V.int m1, V.int r4]) := upd_same
      have trkG : ∀ b, (b = T ∨ (AtP P0 G b ∨ b = L)) → Trk G4 b := fun b h => by
        rcases h with rfl | h | rfl
        · exact .of ((s3.trans s4) _ _ (fun h => h.elim nnT.1 nnT.2) eTG)
        · exact p4.trk b h
        · exact .of ((s3.trans s4) _ _ (fun h => h.elim nnL.1 nnL.2) (sG _ _ (fun h => h.elim (fun h => h.elim nnL.1 nnL.2) (fun h => nTL h.symm)) eLT))
      have nz5 : ¬ (p5 = T ∨ (AtP P0 G p5 ∨ p5 = L)) := fun h => trkG _ h n5
      generalize upd G4 p5 (.tup [V.int m1, V.int r4]) = G5 at *
      have eT5 := sB _ _ (fun h => h.elim nnT.1 nnT.2) eTG
      refine ⟨_, rfl, .inl ⟨rfl, _, .inl (.inl eT5)⟩, ?_⟩
      refine ⟨_, rfl, P0, G, S, 4, rfl, p5', by decide, by decide, fun r6 G6 a6 b6 s6 p6 => ?_⟩
      have sC := sB.trans s6
      have eT6 := sC _ _ (fun h => h.elim nnT.1 nnT.2) eTG
      have e56 := s6 _ _ (fun h => h.elim nn5.1 nn5.2) e5
      have fin : ∀ (v : V) (t : Th), At (fun b => b = T ∨ (AtP P0 G b ∨ b = L)) G6 t v → StepIs (1 + (n : Int)) t → ∃ l xs y, (V.ref T) = .ref l ∧ [v] = [y] ∧ G6 l = some (.lst xs) ∧ xs.length < sizeLine ∧ (SB (fun b => AtP P0 G b ∨ b = T) H4 (upd G6 l (.lst (xs ++ [y]))) ∧ PotAt P0 G S (upd G6 l (.lst (xs ++ [y]))) ∧ ∃ (vs2 : List V) (ts2 : List Th) (y8' y9' : Option V), [some (.ref P0), some (.int mo), some (.ref a), some (.int sz), some (.int (1 + (n : Int))), some (.ref L), some (.int (0 + (i : Nat))), some (.ref T), some (.int (0 + (j : Nat))), some (.ref p5), y10] = [some (.ref P0), some (.int mo), some (.ref a), some (.int sz), some (.int (1 + (n : Int))), some (.ref L), some (.int (0 + (i : Nat))), some (.ref T), y8', y9', y10] ∧ (upd G6 l (.lst (xs ++ [y]))) T = some (.lst vs2) ∧ AtAll (fun b => b = T ∨ (AtP P0 G b ∨ b = L)) (upd G6 l (.lst (xs ++ [y]))) ts2 vs2 ∧ ts2.length = j + 1 ∧ ∀ t ∈ ts2, StepIs (1 + (n : Int)) t) := fun v t a2 i2 => by
        have sU : SB (fun b => b = T ∨ (AtP P0 G b ∨ b = L)) G6 (upd G6 T (.lst (vs2 ++ [v]))) := .self (Z := fun b => b = T ∨ (AtP P0 G b ∨ b = L)) (.inl rfl) _
        refine ⟨T, vs2, v, rfl, rfl, eT6, by rw [aG.len, lG, sizeLine_eq]; omega, (sG.trans (sC.mono fun b e => .inl e)).trans (.self (Z := fun b => AtP P0 G b ∨ b = T) (.inr rfl) _), p6.new pA nT _, vs2 ++ [v], ts2 ++ [t], _, _, rfl, upd_same, ((aG.sb (sC.mono fun b e => .inr (.inl e))).sb sU).append (.cons (a2.sb sU) .nil), by rw [List.length_append, lG]; rfl, fun t' m => ?_⟩
        rcases List.mem_append.mp m with m | m
        · exact gG t' m
        · rw [List.mem_singleton.mp m]; exact i2
      refine ⟨rfl, _, rfl, iteB (fun e => ?_) (fun e => ?_)⟩
      · exact fin .non .non rfl (.inl rfl)
      · exact ⟨_, rfl, fin (.ref p5) (.tup [.int m1, .int r4]) ⟨p5, _, rfl, nz5, e56, .cons rfl (.cons rfl .nil)⟩ (.inr ⟨m1, r4, rfl, m10, m11, a4, b4⟩)⟩
    · obtain ⟨sG, pG, vs2, ts2, y8, y9, rfl, eTG, aG, lG, gG⟩ := h2
      refine ⟨_, rfl, (by show 7 ≤ sizeLine; decide), fun b1' n1' => ?_⟩
      have y1' := same_new n1' (.lst [V.non, V.int 1, V.int 1, V.int 2, V.int 3, V.int 5, V.int 9])
      have nn1' := pG.ne_new n1'
      refine ⟨P0, G, S, b1', _, rfl, pG.same y1', upd_same, nn1'.1, nn1'.2, (by show 1 ≤ 7; decide), (by show 7 ≤ 1000; decide), fun v5 G5 mv5 s5 p5 => ?_⟩
      obtain ⟨en, hen, aen⟩ : ∃ en : Th, (en = .non ∨ ∃ i, en = .int i ∧ 1 ≤ i ∧ i ≤ 9) ∧ ∀ Z G, At Z G en v5 := by
        have : v5 = .non ∨ v5 = .int 1 ∨ v5 = .int 2 ∨ v5 = .int 3 ∨ v5 = .int 5 ∨ v5 = .int 9 := by simpa using mv5
        rcases this with rfl | rfl | rfl | rfl | rfl | rfl
        · exact ⟨.non, .inl rfl, fun _ _ => rfl⟩
        all_goals exact ⟨.int _, .inr ⟨_, rfl, by decide, by decide⟩, fun _ _ => rfl⟩
      have s25 : SB (AtP P0 G) G2 G5 := (SB.of y1').trans s5
      have eL5 := s25 _ _ (fun h => h.elim nnL.1 nnL.2) (sG _ _ (fun h => h.elim (fun h => h.elim nnL.1 nnL.2) (fun h => nTL h.symm)) eLT)
      have eT5 := s25 _ _ (fun h => h.elim nnT.1 nnT.2) eTG
      refine ⟨_, rfl, .inl ⟨rfl, _, .inl (.inl eL5)⟩, ?_⟩
      refine ⟨_, rfl, _, rfl, T, vs2, rfl, .inl ⟨.of eT5, fun p6 n6 => ?_⟩⟩
      have y6' := same_new n6 (.tup vs2)
      refine ⟨(by show 2 ≤ sizeLine; decide), fun p7 n7 => ?_⟩
      have y7' := same_new n7 (.tup [v5, .ref p6])
      have y67 := y6'.trans y7'
      have trk5 : ∀ b, (AtP P0 G b ∨ b = L) → Trk G5 b := fun b h => by
        rcases h with h | rfl
        · exact p5.trk b h
        · exact .of eL5
      have row : At (fun b => AtP P0 G b ∨ b = L) (upd (upd G5 p6 (.tup vs2)) p7 (.tup [v5, .ref p6])) (.tup [en, .tup ts2]) (.ref p7) := ⟨p7, _, rfl, fun h => Trk.not n7 (Trk.same y6' (trk5 _ h)), upd_same, .cons (aen _ _) (.cons ⟨p6, vs2, rfl, fun h => Trk.not n6 (trk5 _ h), y7' _ _ upd_same, (((aG.sb (s25.mono fun b e => .inr (.inl e))).less fun b h => .inr h).same y67)⟩ .nil)⟩
      have sHG : SB (fun b => AtP P0 G b ∨ b = L) H' G2 := fun b o nb hb => sG b o (fun h => h.elim (fun h => nb (.inl h)) (fun h => by rw [h, nT] at hb; cases hb)) (yT _ _ hb)
      have sH7 : SB (fun b => AtP P0 G b ∨ b = L) H' (upd (upd G5 p6 (.tup vs2)) p7 (.tup [v5, .ref p6])) := (sHG.trans (s25.mono fun b e => .inl e)).trans (.of y67)
      have aL7 := aL.sb sH7
      have p57 := p5.same y67
      have eL7 := y67 _ _ eL5
      generalize upd (upd G5 p6 (.tup vs2)) p7 (.tup [v5, .ref p6]) = G7 at *
      have sU : SB (fun b => AtP P0 G b ∨ b = L) G7 (upd G7 L (.lst (vs ++ [.ref p7]))) := .self (Z := fun b => AtP P0 G b ∨ b = L) (.inr rfl) _
      refine ⟨L, vs, _, rfl, rfl, eL7, by rw [aL.len, lL, sizeLine_eq]; omega, (sA.trans sH7).trans sU, p57.new p2 nL _, vs ++ [.ref p7], ts ++ [.tup [en, .tup ts2]], _, _, _, _, _, rfl, upd_same, (aL7.sb sU).append (.cons (row.sb sU) .nil), by rw [List.length_append, lL]; rfl, fun t m => ?_⟩
      rcases List.mem_append.mp m with m | m
      · exact gL t m
      · rw [List.mem_singleton.mp m]
        refine ⟨rowB_of (hen.imp_right fun ⟨i, e, a, b⟩ => ⟨i, e, a, by omega⟩) (by rw [lG]; omega) gG, fun e he => ?_⟩
        have he : en = .int e := he
        rcases hen with rfl | ⟨i, rfl, _, b⟩
        · cases he
        · injection he with he; omega
  · obtain ⟨sA, pA, vs, ts, y6, y7, y8, y9, y10, rfl, eLA, aL, lL, gL⟩ := hh
    refine ⟨_, rfl, _, rfl, L, vs, rfl, .inl ⟨.of eLA, fun p6 n6 => ?_⟩⟩
    have y6' := same_new n6 (.tup vs)
    refine ⟨(by show 2 ≤ sizeLine; decide), fun p7 n7 => ?_⟩
    have y7' := same_new n7 (.tup [.int sz, .ref p6])
    have y67 := y6'.trans y7'
    have trk : ∀ b, (AtP P0 G b ∨ b = L) → Trk H' b := fun b h => by
      rcases h with h | rfl
      · exact pA.trk b h
      · exact .of eLA
    have s0H : SB (AtP P0 G) H H' := fun b o nb hb => sA b o (fun h => h.elim nb (fun h => by
      subst h
      exact absurd (s02 _ _ nb hb) (by rw [nL]; exact fun h => nomatch h))) (s03 b o nb hb)
    refine q _ sz ts _ (s0H.trans (.of y67)) (pA.same y67) ⟨p7, _, rfl, fun h => Trk.not n7 (Trk.same y6' (trk _ (.inl h))), upd_same, .cons rfl (.cons ⟨p6, vs, rfl, fun h => Trk.not n6 (trk _ (.inl h)), y7' _ _ upd_same, (aL.less fun b h => .inl h).same y67⟩ .nil)⟩ ⟨sz1, sz8, by omega, by omega, fun r m => ?_⟩ (by omega) (fun r m e he => (gL r m).2 e he)
    rw [lL, show (((1 + (n : Int)).toNat : Nat) : Int) = 1 + (n : Int) by omega]
    exact (gL r m).1
end
end KL
end
section
set_option maxHeartbeats 1000000
namespace KL
open PySem PySem.Spec PyProof.Rows L2
abbrev sc_law_potN : List Str := ["_law_script", "_law_cells", "_law_greats", "_law_smalls", "_law_item"]
abbrev s_law_pot : Stmt := topS 48
theorem sc_law_pot : FnScope ["_law_script", "_law_cells", "_law_greats", "_law_smalls", "_law_item"] ["_law_script"] (defScope s_law_pot) := ⟨rfl, rfl, rfl, by decide +kernel, rfl, by decide +kernel, by decide +kernel⟩
def spPot (K : PySem.W.Frag) : Sp := fun vs H Q _ => ∃ a ns, vs = [.ref a] ∧ SqL K H a (List.map V.int ns) ∧ ns.length ≤ 63 ∧ ∀ P G S H', Same H H' → H P = none → H G = none → H S = none → PotAt P G S H' → Q (.ref P) H'
section
variable {P : Program} {w : World} {K : PySem.W.Frag} {mg : Str → Option Value} {base : Heap} {k : Nat} {t1 t2 t3 : Tok}
theorem ok_law_pot (G : Ga mg) (Z : Zs mg) (d : Def K mg "_law_pot" s_law_pot ["_law_script"]) : Cal P w K mg base CX0 (k + 1) "_law_pot" ["_law_script"] (spPot K) := by
  refine d.ok sc_law_pot (fun vs H Q E h => ?_) (fun f cdv A outer s H vs Q E hr h => ?_)
  · obtain ⟨_, _, rfl, _⟩ := h; rfl
  obtain ⟨a, ns, rfl, hS, h63, q⟩ := h
  refine ⟨_, (pss_cons (ps_setLc (i := 1) (own := [("_law_item", 4)]) (g := gName 4) (tt := tYes) rfl sc_law_pot.nd rfl rfl (sw_true rfl rfl rfl (by decide +kernel)) (pi_list (pe_slice sl_list (pv 0) po_none (po_some pe_int))) (blkOk_by (N := ["_law_script", "_law_cells", "_law_greats", "_law_smalls", "_law_item"]) (sc := defScope s_law_pot) (by decide +kernel)) (fun _ _ _ _ _ => (pg_name (i := 4) sc_law_pot.nd rfl (Or.inl rfl))) (fun _ _ _ _ _ => pts_nil) (fun _ _ _ _ _ => (pe_callTy (T := "int") call_int1 (by rfl) Z.int (by decide +kernel) (pa_cons (pv 4) pa_nil))))
      (pss_cons (ps_setLc (i := 2) (own := [("_law_item", 4)]) (g := gName 4) (tt := _) rfl sc_law_pot.nd rfl rfl (sw_true rfl rfl rfl (by decide +kernel)) (pi_list (pv 1)) (blkOk_by (N := ["_law_script", "_law_cells", "_law_greats", "_law_smalls", "_law_item"]) (sc := defScope s_law_pot) (by decide +kernel)) (fun _ _ _ _ _ => (pg_name (i := 4) sc_law_pot.nd rfl (Or.inl rfl))) (fun _ _ _ _ _ => (pts_one (pt_cmpR op_ge (pe_callB (id := "abs") call_abs (by rfl) G.abs (by decide +kernel) (pa_cons (pv 4) pa_nil)) (pe_op op_pow pe_int pe_int) (nomark _)))) (fun _ _ _ _ _ => (pe_callB (id := "abs") call_abs (by rfl) G.abs (by decide +kernel) (pa_cons (pv 4) pa_nil))))
      (pss_cons (ps_set (i := 3) sc_law_pot.nd rfl (Or.inl rfl) (pe_op op_cat (pe_lc (own := [("_law_item", 4)]) (g := gName 4) (tt := _) rfl sc_law_pot.nd (pi_list (pv 1)) (blkOk_by (N := ["_law_script", "_law_cells", "_law_greats", "_law_smalls", "_law_item"]) (sc := defScope s_law_pot) (by decide +kernel)) (fun _ _ _ _ _ => (pg_name (i := 4) sc_law_pot.nd rfl (Or.inl rfl))) (fun _ _ _ _ _ => (pts_one (pt_cmpR op_lt (pe_callB (id := "abs") call_abs (by rfl) G.abs (by decide +kernel) (pa_cons (pv 4) pa_nil)) (pe_op op_pow pe_int pe_int) (nomark _)))) (fun _ _ _ _ _ => (pe_op op_mod (pe_callTy (T := "int") call_int1 (by rfl) Z.int (by decide +kernel) (pa_cons (pv 4) pa_nil)) pe_int))) (pe_lst (pa_cons (pe_op op_add (pe_callB (id := "len") call_len_seq (by rfl) Z.len (by decide +kernel) (pa_cons (pv 1) pa_nil)) pe_int) pa_nil))))
      (pss_one (ps_ret (pe_lst (pa_cons (pv 2) (pa_cons (pv 3) (pa_cons pe_int (pa_cons (pe_op op_mod (pe_callTy (T := "int") call_int1 (by rfl) Z.int (by decide +kernel) (pa_cons (pe_callB (id := "sum") (cr_sum rfl) (by rfl) Z.sum (by decide +kernel) (pa_cons (pv 3) pa_nil)) pa_nil)) pe_int) pa_nil)))))))))), ?_⟩
  obtain ⟨ms, em, lm⟩ := cut_ints ns none (some 63)
  refine ⟨_, rfl, 63, rfl, a, _, rfl, hS, fun p hp => ?_⟩
  have y1 := same_new hp (.lst (cutV (ns.map V.int) none (some 63)))
  have e1 : (upd H p (.lst (cutV (ns.map V.int) none (some 63)))) p = some (.lst (ms.map V.int)) := by rw [upd_same, em]
  generalize upd H p (.lst (cutV (ns.map V.int) none (some 63))) = H1 at *
  have gm : ∀ {j : Nat} {x : V}, (ms.map V.int)[j]? = some x → x = .int ((ms[j]?).getD 0) ∧ j < ms.length := fun h => by
    rw [List.getElem?_map] at h
    obtain ⟨i, ei, rfl⟩ := Option.map_eq_some_iff.mp h
    rw [ei]
    exact ⟨rfl, (List.getElem?_eq_some_iff.mp ei).1⟩
  have lmm : ms.length ≤ 63 := by omega
  refine ⟨p, rfl, ⟨_, .of e1⟩, lc_valW (f := fun j => .int ((ms[j]?).getD 0)) (p := fun _ => true) walk_list (fun _ _ _ _ h => h) (fun G' s' => .of (s' _ _ e1)) (by rw [List.length_map]; omega) (fun _ => rfl) (fun j x G' hj ex sG R hR => hR G' (Same.refl G')) (fun j x G' hj ex hp sG R hR => ?_) (fun C H2 s2 nC eC => ?_)⟩
  · obtain ⟨rfl, _⟩ := gm ex
    exact ⟨_, rfl, .inl ⟨_, rfl, hR G' (Same.refl G')⟩⟩
  rw [filt_all, List.length_map] at eC
  have eC' : H2 C = some (.lst (ms.map V.int)) := by
    rw [eC]; congr 2
    refine List.ext_getElem? fun i => ?_
    rw [List.getElem?_map, List.getElem?_map]
    by_cases hi : i < ms.length
    · rw [List.getElem?_range hi, List.getElem?_eq_getElem hi]; simp [List.getElem?_eq_getElem hi]
    · rw [List.getElem?_eq_none (by rw [List.length_range]; omega), List.getElem?_eq_none (by omega)]; rfl
  have cp : CPow 10 18 := ⟨by decide, by decide, by decide⟩
  -- greats
  refine ⟨_, rfl, C, rfl, ⟨_, .of eC'⟩, lc_valW (f := fun j => .int (if (ms[j]?).getD 0 < 0 then -(ms[j]?).getD 0 else (ms[j]?).getD 0)) (p := fun j => decide ((10 : Int) ^ (18 : Int).toNat ≤ (if (ms[j]?).getD 0 < 0 then -(ms[j]?).getD 0 else (ms[j]?).getD 0))) walk_list (fun _ _ _ _ h => h) (fun G' s' => .of (s' _ _ eC')) (by rw [List.length_map]; omega) (fun _ => rfl) (fun j x G' hj ex sG R hR => ?_) (fun j x G' hj ex hp sG R hR => ?_) (fun B H3 s3 nB eB => ?_)⟩
  · obtain ⟨rfl, _⟩ := gm ex
    exact ⟨_, rfl, _, rfl, _, _, rfl, rfl, cp, _, _, rfl, rfl, _, rfl, hR G' (Same.refl G')⟩
  · obtain ⟨rfl, _⟩ := gm ex
    exact ⟨_, rfl, _, rfl, hR G' (Same.refl G')⟩
  have eC3 := s3 _ _ eC'
  -- smalls
  refine ⟨_, rfl, C, rfl, ⟨_, .of eC3⟩, lc_valW (f := fun j => .int ((ms[j]?).getD 0 % 1000000007)) (p := fun j => decide ((if (ms[j]?).getD 0 < 0 then -(ms[j]?).getD 0 else (ms[j]?).getD 0) < (10 : Int) ^ (18 : Int).toNat)) walk_list (fun _ _ _ _ h => h) (fun G' s' => .of (s' _ _ eC3)) (by rw [List.length_map]; omega) (fun _ => rfl) (fun j x G' hj ex sG R hR => ?_) (fun j x G' hj ex hp sG R hR => ?_) (fun D H4 s4 nD eD => ?_)⟩
  · obtain ⟨rfl, _⟩ := gm ex
    exact ⟨_, rfl, _, rfl, _, _, rfl, rfl, cp, _, _, rfl, rfl, _, rfl, hR G' (Same.refl G')⟩
  · obtain ⟨rfl, _⟩ := gm ex
    exact ⟨_, rfl, .inl ⟨_, rfl, _, _, rfl, rfl, (by show (0 : Int) < _; decide), hR G' (Same.refl G')⟩⟩
  rw [List.length_map] at eB eD
  generalize hg1 : (List.range ms.length).filter (fun j => decide ((10 : Int) ^ (18 : Int).toNat ≤ (if (ms[j]?).getD 0 < 0 then -(ms[j]?).getD 0 else (ms[j]?).getD 0))) = i1 at eB
  generalize hg2 : (List.range ms.length).filter (fun j => decide ((if (ms[j]?).getD 0 < 0 then -(ms[j]?).getD 0 else (ms[j]?).getD 0) < (10 : Int) ^ (18 : Int).toNat)) = i2 at eD
  have l2 : i2.length ≤ ms.length := by
    have := List.length_filter_le (fun j => decide ((if (ms[j]?).getD 0 < 0 then -(ms[j]?).getD 0 else (ms[j]?).getD 0) < (10 : Int) ^ (18 : Int).toNat)) (List.range ms.length)
    rw [hg2, List.length_range] at this
    exact this
  have eB' : H3 B = some (.lst ((i1.map fun j => if (ms[j]?).getD 0 < 0 then -(ms[j]?).getD 0 else (ms[j]?).getD 0).map V.int)) := by rw [eB, List.map_map]; rfl
  have eD' : H4 D = some (.lst ((i2.map fun j => (ms[j]?).getD 0 % 1000000007).map V.int)) := by rw [eD, List.map_map]; rfl
  have eC4 := s4 _ _ eC3
  refine ⟨_, rfl, C, _, rfl, .inl (.of eC4), _, _, rfl, rfl, (by show 1 ≤ sizeLine; decide), fun O nO => ?_⟩
  have yO := same_new nO (.lst [V.int (((ms.map V.int).length : Nat) + 1)])
  refine ⟨D, O, _, _, rfl, rfl, yO _ _ eD', upd_same, by rw [List.length_map, List.length_map, sizeLine_eq]; show i2.length + 1 ≤ _; omega, fun S nS => ?_⟩
  have eS : (upd (upd H4 O (.lst [V.int (((ms.map V.int).length : Nat) + 1)])) S (.lst ((i2.map fun j => (ms[j]?).getD 0 % 1000000007).map V.int ++ [V.int (((ms.map V.int).length : Nat) + 1)]))) S = some (.lst (((i2.map fun j => (ms[j]?).getD 0 % 1000000007) ++ [((ms.length : Nat) : Int) + 1]).map V.int)) := by
    rw [upd_same, List.map_append, List.length_map]; rfl
  have yS := same_new nS (.lst ((i2.map fun j => (ms[j]?).getD 0 % 1000000007).map V.int ++ [V.int (((ms.map V.int).length : Nat) + 1)]))
  have s4S := yO.trans yS
  generalize upd (upd H4 O (.lst [V.int (((ms.map V.int).length : Nat) + 1)])) S (.lst ((i2.map fun j => (ms[j]?).getD 0 % 1000000007).map V.int ++ [V.int (((ms.map V.int).length : Nat) + 1)])) = H5 at *
  have eB5 := s4S _ _ (s4 _ _ eB')
  have s0 : Same H H5 := y1.trans (s2.trans (s3.trans (s4.trans s4S)))
  refine ⟨_, rfl, _, rfl, _, rfl, S, _, rfl, .of eS, .inl ⟨_, rfl, _, _, rfl, rfl, (by show (0 : Int) < _; decide), (by show 4 ≤ sizeLine; decide), fun P0 nP => ?_⟩⟩
  have nBS : B ≠ S := fun h => by
    have := yO _ _ (s4 _ _ eB')
    rw [h, nS] at this
    cases this
  refine q P0 B S _ (s0.trans (same_new nP _)) (Same.free s0 nP) (Same.free (y1.trans s2) nB) (Same.free (y1.trans (s2.trans (s3.trans (s4.trans yO)))) nS) ⟨_, _, 0, _, upd_same, same_new nP _ _ _ eB5, same_new nP _ _ _ eS, nBS, ?_, ?_, fun x mx => ?_, Int.le_refl _, Int.emod_nonneg _ (by decide), Int.emod_lt_of_pos _ (by decide)⟩
  · rw [List.length_append]; show 1 ≤ _ + 1; omega
  · rw [List.length_append, List.length_map]; show i2.length + 1 ≤ 64; omega
  · rcases List.mem_append.mp mx with mx | mx
    · obtain ⟨j, _, rfl⟩ := List.mem_map.mp mx
      exact ⟨Int.emod_nonneg _ (by decide), Int.emod_lt_of_pos _ (by decide)⟩
    · rw [List.mem_singleton.mp mx]
      omega
end
end KL
end
section
set_option maxHeartbeats 1000000
namespace KL
open PySem PySem.Spec PyProof.Rows L2
def rSlZ (K : PySem.W.Frag) : V → Option Int → Option Int → Hp → VK → Prop := fun x lo hi H Q => ∃ (Z : Zone) (ds : List Th), At Z H (.tup ds) x ∧ (∀ a, Z a → Trk H a) ∧ ∀ v H', Same H H' → At Z H' (.tup (cutT ds lo hi)) v → Q v H'
section
variable {X : Cx}
theorem sl_exactZ : SlR X (rSlZ X.K) := by
  intro pins s σ H x v vl vu lo hi sl Q I rx hs pl pu h
  refine sl_tupA pins s σ H x v vl vu lo hi sl Q I rx hs pl pu ?_
  obtain ⟨Z, ds, h, hW, q⟩ := h
  obtain ⟨a, vs, rfl, na, e, ha⟩ := id h
  refine ⟨a, vs, rfl, .of e, fun hh => ?_, fun _ p hp => ?_⟩
  · rw [ha.len] at hh
    have e2 : cutT ds lo hi = ds := by unfold cutT; rw [hh.1, hh.2]; simp
    have q2 := q (.ref a) H (Same.refl H)
    rw [e2] at q2
    exact q2 h
  · have sp := same_new hp (.tup (cutV vs lo hi))
    refine q _ _ sp ⟨p, _, rfl, fun z => hW p z hp, upd_same, ?_⟩
    unfold cutT
    rw [← ha.len]
    exact ((ha.drop _).take _).same sp
end
/-- a thing that can be compared, and judged -/
structure Fine (dd : Th) : Prop where
  sm : SmallF dd
  sh : shortT dd = true
  ly : (py dd).canLay0 = true
  dp : dp dd ≤ 64
/-- an item -/
structure Item (it : Th) : Prop where
  fr : fracB it = true → (topI it).natAbs < 2 ^ 4100 ∧ (botI it).natAbs < 2 ^ 4100
  sh : shortT it = true
  ly : (py it).canLay0 = true
  dp : dp it ≤ 2
theorem dpL_le {n : Nat} : ∀ {xs : List Th}, (∀ x ∈ xs, dp x ≤ n) → dpL xs ≤ n
  | [], _ => Nat.zero_le _
  | x :: xs, h => Nat.max_le.mpr ⟨h x List.mem_cons_self, dpL_le fun y m => h y (List.mem_cons_of_mem _ m)⟩
theorem shortL_all : ∀ {xs : List Th}, (∀ x ∈ xs, shortT x = true) → shortL xs = true
  | [], _ => rfl
  | x :: xs, h => by
    show (shortT x && shortL xs) = true
    rw [h x List.mem_cons_self, shortL_all fun y m => h y (List.mem_cons_of_mem _ m)]; rfl
theorem short_tup' {xs : List Th} (hl : xs.length ≤ 1000000) (h : ∀ x ∈ xs, shortT x = true) : shortT (.tup xs) = true := by
  show (decide (xs.length ≤ 1000000) && shortL xs) = true
  rw [decide_eq_true hl, shortL_all h]; rfl
theorem Item.pair {x y : Int} (hx : x.natAbs < 2 ^ 4100) (hy : y.natAbs < 2 ^ 4100) : Item (.tup [.int x, .int y]) where
  fr := fun _ => ⟨hx, hy⟩
  sh := rfl
  ly := lay_tup fun a m => by
    rcases List.mem_cons.mp m with rfl | m
    · exact lay_int _
    · rw [List.mem_singleton.mp m]; exact lay_int _
  dp := by show max 0 (max 0 0) + 1 ≤ 2; decide
theorem Item.non : Item .non := ⟨(fun h => nomatch h), rfl, lay_non, Nat.zero_le _⟩
theorem Item.int (i : Int) : Item (.int i) := ⟨(fun h => nomatch h), rfl, lay_int i, Nat.zero_le _⟩
theorem lay_lst' {xs : List Th} (h : ∀ x ∈ xs, (py x).canLay0 = true) : (py (.lst xs)).canLay0 = true := by
  rw [py]
  simp only [PyData.canLay0]
  exact layL h
theorem Item.lst {x y : Int} : Item (.lst [.int x, .int y]) where
  fr := fun h => nomatch h
  sh := rfl
  ly := lay_lst' fun a m => by
    rcases List.mem_cons.mp m with rfl | m
    · exact lay_int _
    · rw [List.mem_singleton.mp m]; exact lay_int _
  dp := by show max 0 (max 0 0) + 1 ≤ 2; decide
/-- fractions whose bottoms divide D -/
structure Fracs (D : Nat) (fs : List Th) : Prop where
  D0 : 0 < D
  D1 : D < 2 ^ 4000
  fr : ∀ f ∈ fs, fracB f = true
  tp : ∀ f ∈ fs, (topI f).natAbs < 2 ^ 4000
  bt : ∀ f ∈ fs, (botI f).natAbs ∣ D
theorem Fracs.item {D : Nat} {fs : List Th} (h : Fracs D fs) {f : Th} (m : f ∈ fs) : Item f := by
  have e := (fracB_is (h.fr f m)).1
  have b : (botI f).natAbs < 2 ^ 4000 := Nat.lt_of_le_of_lt (Nat.le_of_dvd h.D0 (h.bt f m)) h.D1
  have p : (2 : Nat) ^ 4000 ≤ 2 ^ 4100 := Nat.pow_le_pow_right (by decide) (by decide)
  rw [e]
  exact .pair (Nat.lt_of_lt_of_le (h.tp f m) p) (Nat.lt_of_lt_of_le b p)
/-- items that stand in fs, but for one -/
theorem Fine.tup {D : Nat} {fs xs : List Th} (h : Fracs D fs) {it : Th} (hi : Item it) (hl : xs.length ≤ 1000) (hx : ∀ x ∈ xs, x ∈ fs ∨ x = it) : Fine (.tup xs) := by
  have im : ∀ x ∈ xs, Item x := fun x m => (hx x m).elim (fun m => h.item m) (fun e => e ▸ hi)
  refine ⟨fun ys e hB => ?_, short_tup' (by omega) fun x m => (im x m).sh, lay_tup fun x m => (im x m).ly, ?_⟩
  · injection e with e
    subst e
    refine ⟨fun f m => ((im f m).fr (hB f m)).1, ?_⟩
    by_cases hf : fracB it = true
    · refine ⟨D * (botI it).natAbs, Nat.mul_pos h.D0 (botI_nz _ hf), ?_, fun f m => ?_⟩
      · refine Nat.lt_of_lt_of_le (Nat.mul_lt_mul'' h.D1 (hi.fr hf).2) ?_
        rw [← Nat.pow_add]
        exact Nat.pow_le_pow_right (by decide) (by decide)
      · rcases hx f m with m | e
        · exact Nat.dvd_trans (h.bt f m) (Nat.dvd_mul_right _ _)
        · rw [e]; exact Nat.dvd_mul_left _ _
    · refine ⟨D, h.D0, Nat.lt_of_lt_of_le h.D1 (Nat.pow_le_pow_right (by decide) (by decide)), fun f m => ?_⟩
      rcases hx f m with m2 | e
      · exact h.bt f m2
      · have := hB f m
        rw [e] at this
        exact absurd this hf
  · have := dpL_le fun x m => (im x m).dp
    show dpL xs + 1 ≤ 64
    omega
theorem Fine.lst {D : Nat} {fs : List Th} (h : Fracs D fs) (hl : fs.length ≤ 1000) : Fine (.lst fs) := by
  refine ⟨(fun ys e => nomatch e), rfl, lay_lst' fun x m => (h.item m).ly, ?_⟩
  have := dpL_le fun x m => (h.item (f := x) m).dp
  show dpL fs + 1 ≤ 64
  omega
theorem Fine.non : Fine .non := ⟨(fun ys e => nomatch e), rfl, lay_non, Nat.zero_le _⟩
def spBent : Sp := fun vs H Q _ => ∃ (P G S : Addr) (v : V) (D : Nat) (fs : List Th), vs = [.ref P, v] ∧ PotAt P G S H ∧ At (AtP P G) H (.tup fs) v ∧ 1 ≤ fs.length ∧ fs.length ≤ 30 ∧ Fracs D fs ∧
  ∀ v' dd H', SB (AtP P G) H H' → PotAt P G S H' → At (AtP P G) H' dd v' → Fine dd → Q v' H'
section
variable {P : Program} {w : World} {K : PySem.W.Frag} {mg : Str → Option Value} {base : Heap} {k : Nat} {t1 t2 t3 : Tok}
end
end KL
end
section
set_option maxHeartbeats 1000000
namespace KL
open PySem PySem.Spec PyProof.Rows L2
abbrev sc_law_trimN : List Str := ["_law_machine_here", "_law_size", "_law_rows", "_law_first", "_law_last", "_law_turn", "_law_state", "_law_later", "_law_stays", "_law_found", "_law_steps", "_law_step", "_law_other"]
abbrev s_law_trim : Stmt := topS 54
theorem sc_law_trim : FnScope ["_law_machine_here", "_law_size", "_law_rows", "_law_first", "_law_last", "_law_turn", "_law_state", "_law_later", "_law_stays", "_law_found", "_law_steps", "_law_step", "_law_other"] ["_law_machine_here"] (defScope s_law_trim) := ⟨rfl, rfl, rfl, by decide +kernel, rfl, by decide +kernel, by decide +kernel⟩
/-! ### d.update(e), both dicts -/
def rDUpd : V → List V → Hp → VK → Prop := fun x vs H Q => ∃ l b xs zs, x = .ref l ∧ vs = [.ref b] ∧ l ≠ b ∧ H l = some (.dK xs) ∧ H b = some (.dK zs) ∧ xs.length + zs.length ≤ sizeLine ∧ Q .non (upd H l (.dK (mergeK xs zs)))
theorem mt_dupd {X : Cx} : MtM X "dict.update" rDUpd := by
  intro pins s σ H x vs v us Q I rx rv h
  obtain ⟨l, b, xs, zs, rfl, rfl, hne, hH, hB, hz, q⟩ := h
  cases rx
  obtain ⟨u, rfl, ru⟩ := rv.one
  cases ru
  obtain ⟨z, hd, us1, rel, dd⟩ := dk_of I.hok hH
  obtain ⟨z2, hd2, us2, rel2, dd2⟩ := dk_of I.hok hB
  refine call_meetsIn PySem.F.slot_dict_update dd.typeIs PySem.F.entry_dict_update (PySem.F.args_dict_update_2 _ _) (meets_dict_update (mixKind X.prog X.w) l b hne hd2) ⟨us1, us2, dd, dd2, by rw [← rel.length, ← rel2.length]; exact hz, fun h' dd' _ hs => ?_⟩
  have he : ∃ q, h'.get? l = some q := let ⟨q, _, _, hq, _⟩ := dd'; ⟨q, hq⟩
  have hl : (mergeK xs zs).length ≤ sizeLine := Nat.le_trans (length_mergeK zs xs) hz
  exact ⟨.non, _, d_write (t' := s.toks) I (by rw [hH]; exact True.intro) hs he (dk_new hl hd (KV.merge rel2 rel) dd'), rfl, q⟩
structure Gdi (mg : Str → Option Value) : Prop where
  dict : mg "dict" = none
/-! ### keys of a dict as a set of states -/
def inK (kvs : List (Key × V)) (s : Nat) : Bool := (valV kvs (Sum.inl (s : Int))).isSome
theorem inK_put (kvs : List (Key × V)) (t s : Nat) (v : V) : inK (putK kvs (Sum.inl (t : Int)) v) s = (decide (s = t) || inK kvs s) := by
  unfold inK
  rw [valV_put]
  by_cases e : s = t
  · subst e; rw [if_pos rfl, decide_eq_true rfl]; rfl
  · rw [if_neg (fun h => e (by injection h with h; exact Int.ofNat.inj h)), decide_eq_false e, Bool.false_or]
theorem inK_merge (s : Nat) : ∀ (zs xs : List (Key × V)), inK (mergeK xs zs) s = (inK xs s || inK zs s)
  | [], xs => by show inK xs s = (inK xs s || false); rw [Bool.or_false]
  | (k, v) :: zs, xs => by
    show inK (mergeK (putK xs k v) zs) s = _
    rw [inK_merge s zs]
    by_cases e : k = Sum.inl (s : Int)
    · subst e
      rw [inK_put, decide_eq_true rfl, Bool.true_or, Bool.true_or]
      have : inK ((Sum.inl (s : Int), v) :: zs) s = true := by unfold inK; rw [valV_pos rfl]; rfl
      rw [this, Bool.or_true]
    · have h1 : inK (putK xs k v) s = inK xs s := by
        unfold inK
        rw [valV_put, if_neg (fun h => e h.symm)]
      have h2 : inK ((k, v) :: zs) s = inK zs s := by
        unfold inK
        rw [valV_neg (p := (k, v)) e]
      rw [h1, h2]
abbrev flags (us : List Nat) : List (Key × V) := us.map fun u : Nat => (Sum.inl (u : Int), V.bl true)
theorem inK_flags (s : Nat) : ∀ us : List Nat, inK (flags us) s = decide (s ∈ us)
  | [] => rfl
  | u :: us => by
    have ih := inK_flags s us
    unfold inK at ih ⊢
    by_cases e : u = s
    · subst e
      show (valV ((Sum.inl (u : Int), V.bl true) :: flags us) (Sum.inl (u : Int))).isSome = _
      rw [valV_pos rfl, decide_eq_true List.mem_cons_self]; rfl
    · show (valV ((Sum.inl (u : Int), V.bl true) :: flags us) (Sum.inl (s : Int))).isSome = _
      rw [valV_neg (fun h => e (by injection h with h; exact Int.ofNat.inj h)), ih]
      exact decide_eq_decide.mpr ⟨fun m => List.mem_cons_of_mem _ m, fun m => (List.mem_cons.mp m).resolve_left fun h => e h.symm⟩
theorem inK_up (xs : List (Key × V)) (us : List Nat) (s : Nat) : inK (mergeK xs (mergeK [] (flags us))) s = (inK xs s || decide (s ∈ us)) := by
  rw [inK_merge, inK_merge, inK_flags]
  rfl
theorem pairs_flags {K : PySem.W.Frag} {Z : Zone} {H : Hp} : ∀ {us : List Nat} {vs : List V}, AtAll Z H (us.map fun u : Nat => Th.tup [.int (u : Int), .bl true]) vs → ∃ pp : List Addr, vs = pp.map V.ref ∧ Paired (fun p (kv : Key × V) => SqT K H p [kV kv.1, kv.2]) pp (flags us)
  | [], _, h => ⟨[], by rw [show _ = [] from h]; rfl, .nil⟩
  | u :: us, _, ⟨v, vs, rfl, h1, h2⟩ => by
    obtain ⟨pp, rfl, pd⟩ := pairs_flags (K := K) h2
    obtain ⟨q, a, b, rfl, e, ha, hb⟩ := h1.pair
    cases (show a = _ from ha)
    cases (show b = _ from hb)
    exact ⟨q :: pp, rfl, .cons (.of e) pd⟩
/-! ### rounds that fill a set -/
def cntB (p : Nat → Bool) : Nat → Nat
  | 0 => 0
  | n + 1 => cntB p n + if p n = true then 1 else 0
theorem cntB_le (p : Nat → Bool) : ∀ n, cntB p n ≤ n
  | 0 => Nat.le_refl _
  | n + 1 => by
    have := cntB_le p n
    rw [cntB]
    split <;> omega
theorem cntB_mono {p q : Nat → Bool} (h : ∀ s, p s = true → q s = true) : ∀ n, cntB p n ≤ cntB q n
  | 0 => Nat.le_refl _
  | n + 1 => by
    have := cntB_mono h n
    rw [cntB, cntB]
    by_cases e : p n = true
    · rw [if_pos e, if_pos (h n e)]; omega
    · rw [if_neg e]; omega
theorem cntB_lt {p q : Nat → Bool} (h : ∀ s, p s = true → q s = true) {s : Nat} (hp : ¬ p s = true) (hq : q s = true) : ∀ {n : Nat}, s < n → cntB p n < cntB q n
  | 0, h => by omega
  | n + 1, hs => by
    have m := cntB_mono h n
    rw [cntB, cntB]
    by_cases e : s = n
    · subst e
      rw [if_neg hp, if_pos hq]; omega
    · have := cntB_lt h hp hq (show s < n by omega)
      by_cases e2 : p n = true
      · rw [if_pos e2, if_pos (h n e2)]; omega
      · rw [if_neg e2]; omega
theorem cntB_all {p : Nat → Bool} : ∀ {n : Nat}, n ≤ cntB p n → ∀ s, s < n → p s = true
  | 0, _, s, hs => by omega
  | n + 1, h, s, hs => by
    have l := cntB_le p n
    rw [cntB] at h
    by_cases e : p n = true
    · rw [if_pos e] at h
      by_cases es : s = n
      · subst es; exact e
      · exact cntB_all (n := n) (by omega) s (by omega)
    · rw [if_neg e] at h; omega
theorem cntB_pos {p : Nat → Bool} {n : Nat} (h : p 0 = true) (hn : 1 ≤ n) : 1 ≤ cntB p n := by
  have := cntB_lt (p := fun _ => false) (q := p) (fun s h => nomatch h) (s := 0) (by decide) h (n := n) (by omega)
  omega
abbrev nxl (rows : List Th) (s : Nat) : List Nat := ((nxs rows)[s]?).getD []
/-- closed: forwards, and backwards -/
def ClF (rows : List Th) (F : Nat → Bool) : Prop := ∀ s, s < rows.length → F s = true → ∀ u ∈ nxl rows s, F u = true
def ClL (rows : List Th) (L : Nat → Bool) : Prop := ∀ s, s < rows.length → (isEnd rows s ∨ ∃ u ∈ nxl rows s, L u = true) → L s = true
/-- within a round that began with F, L: states below i are done -/
structure RndF (rows : List Th) (i : Nat) (F F1 : Nat → Bool) : Prop where
  up : ∀ s, F s = true → F1 s = true
  dn : ∀ s, s < i → F s = true → ∀ u ∈ nxl rows s, F1 u = true
  cl : ClF rows F → ∀ s, F1 s = true → F s = true
  snd : ∀ s, F1 s = true → s < rows.length ∧ Rc rows 0 s
structure RndL (rows : List Th) (i : Nat) (L L1 : Nat → Bool) : Prop where
  up : ∀ s, L s = true → L1 s = true
  dn : ∀ s, s < i → (isEnd rows s ∨ ∃ u ∈ nxl rows s, L u = true) → L1 s = true
  cl : ClL rows L → ∀ s, L1 s = true → L s = true
  snd : ∀ s, L1 s = true → s < rows.length ∧ lvE rows s
section
variable {z : Int} {rows : List Th}
theorem RndF.next (ok : MOk z rows) {i : Nat} {F F1 F2 : Nat → Bool} (h : RndF rows i F F1) (hi : i < rows.length) (e : ∀ s, F2 s = true ↔ F1 s = true ∨ (F1 i = true ∧ s ∈ nxl rows i)) : RndF rows (i + 1) F F2 where
  up := fun s q => (e s).mpr (.inl (h.up s q))
  dn := fun s hs q u m => by
    by_cases es : s = i
    · subst es
      exact (e u).mpr (.inr ⟨h.up s q, m⟩)
    · exact (e u).mpr (.inl (h.dn s (by omega) q u m))
  cl := fun c s q => by
    rcases (e s).mp q with q | ⟨q, m⟩
    · exact h.cl c s q
    · exact c i hi (h.cl c i q) s m
  snd := fun s q => by
    rcases (e s).mp q with q | ⟨q, m⟩
    · exact h.snd s q
    · have r : Rc rows 0 s := .step (h.snd i q).2 m
      exact ⟨ok.rc_lt ok.n1 r, r⟩
theorem RndL.next (ok : MOk z rows) {i : Nat} {L L1 L2 : Nat → Bool} (h : RndL rows i L L1) (hi : i < rows.length) (e : ∀ s, L2 s = true ↔ L1 s = true ∨ (s = i ∧ (isEnd rows i ∨ ∃ u ∈ nxl rows i, L1 u = true))) : RndL rows (i + 1) L L2 where
  up := fun s q => (e s).mpr (.inl (h.up s q))
  dn := fun s hs q => by
    by_cases es : s = i
    · subst es
      exact (e s).mpr (.inr ⟨rfl, q.imp_right fun ⟨u, m, k⟩ => ⟨u, m, h.up u k⟩⟩)
    · exact (e s).mpr (.inl (h.dn s (by omega) q))
  cl := fun c s q => by
    rcases (e s).mp q with q | ⟨rfl, q⟩
    · exact h.cl c s q
    · exact c s hi (q.imp_right fun ⟨u, m, k⟩ => ⟨u, m, h.cl c u k⟩)
  snd := fun s q => by
    rcases (e s).mp q with q | ⟨rfl, q⟩
    · exact h.snd s q
    · refine ⟨hi, ?_⟩
      rcases q with q | ⟨u, m, k⟩
      · exact isEnd_lvE q
      · exact lvE_head m (h.snd u k).2
theorem RndF.start {F : Nat → Bool} (snd : ∀ s, F s = true → s < rows.length ∧ Rc rows 0 s) : RndF rows 0 F F := ⟨fun _ q => q, fun s hs => by omega, fun _ _ q => q, snd⟩
theorem RndL.start {L : Nat → Bool} (snd : ∀ s, L s = true → s < rows.length ∧ lvE rows s) : RndL rows 0 L L := ⟨fun _ q => q, fun s hs => by omega, fun _ _ q => q, snd⟩
theorem RndF.fin {F F1 : Nat → Bool} {t : Nat} (h : RndF rows rows.length F F1) (ok : MOk z rows) (q : ClF rows F ∨ t + 1 ≤ cntB F rows.length) : ClF rows F1 ∨ t + 1 + 1 ≤ cntB F1 rows.length := by
  by_cases c : ClF rows F
  · exact .inl fun s hs k u m => h.up u (c s hs (h.cl c s k) u m)
  · refine .inr ?_
    have c2 : ∃ s, s < rows.length ∧ F s = true ∧ ∃ u ∈ nxl rows s, ¬ F u = true := by
      refine Classical.byContradiction fun n => c fun s hs k u m => Classical.byContradiction fun x => n ⟨s, hs, k, u, m, x⟩
    obtain ⟨s, hs, k, u, m, x⟩ := c2
    have y := h.dn s hs k u m
    have := cntB_lt h.up x y (h.snd u y).1
    have := q.resolve_left c
    omega
theorem RndL.fin {L L1 : Nat → Bool} {t : Nat} (h : RndL rows rows.length L L1) (q : ClL rows L ∨ t ≤ cntB L rows.length) : ClL rows L1 ∨ t + 1 ≤ cntB L1 rows.length := by
  by_cases c : ClL rows L
  · exact .inl fun s hs k => h.up s (c s hs (k.imp_right fun ⟨u, m, k⟩ => ⟨u, m, h.cl c u k⟩))
  · refine .inr ?_
    have c2 : ∃ s, s < rows.length ∧ (isEnd rows s ∨ ∃ u ∈ nxl rows s, L u = true) ∧ ¬ L s = true := by
      refine Classical.byContradiction fun n => c fun s hs k => Classical.byContradiction fun x => n ⟨s, hs, k, x⟩
    obtain ⟨s, hs, k, x⟩ := c2
    have := cntB_lt h.up x (h.dn s hs k) hs
    have := q.resolve_left c
    omega
theorem doneF (ok : MOk z rows) {F : Nat → Bool} (f0 : F 0 = true) (snd : ∀ s, F s = true → s < rows.length ∧ Rc rows 0 s) (q : ClF rows F ∨ rows.length + 1 ≤ cntB F rows.length) (s : Nat) : F s = true ↔ Rc rows 0 s := by
  have c : ClF rows F := q.resolve_right fun h => by have := cntB_le F rows.length; omega
  refine ⟨fun h => (snd s h).2, fun r => ?_⟩
  induction r with
  | base m => rw [List.mem_singleton.mp m]; exact f0
  | step r m ih => exact c _ (snd _ ih).1 ih _ m
theorem doneL (ok : MOk z rows) {L : Nat → Bool} (snd : ∀ s, L s = true → s < rows.length ∧ lvE rows s) (q : ClL rows L ∨ rows.length ≤ cntB L rows.length) (s : Nat) (hs : s < rows.length) : L s = true ↔ lvE rows s := by
  refine ⟨fun h => (snd s h).2, fun ⟨e, r, he⟩ => ?_⟩
  rcases q with c | a
  · have key : ∀ b, Rc rows s b → L b = true → L s = true := fun b r => by
      induction r with
      | base m => rw [List.mem_singleton.mp m]; exact fun h => h
      | step r m ih => exact fun h => ih (c _ (ok.rc_lt hs r) (.inr ⟨_, m, h⟩))
    exact key e r (c e (ok.rc_lt hs r) (.inl he))
  · exact cntB_all a s hs
end
section
variable {P : Program} {w : World} {K : PySem.W.Frag} {mg : Str → Option Value} {base : Heap} {k : Nat} {t1 t2 t3 : Tok}
theorem ok_law_trim (Z : Zs mg) (Gd : Gdi mg) (d : Def K mg "_law_trim" s_law_trim ["_law_machine_here"]) : Cal P w K mg base CX0 (k + 1) "_law_trim" ["_law_machine_here"] spLTrim := by
  refine d.ok sc_law_trim (fun vs H Q E h => ?_) (fun f cdv A outer s H vs Q E hr h => ?_)
  · obtain ⟨_, _, _, _, rfl, _⟩ := h; rfl
  obtain ⟨Zn, u, z, rows, rfl, hu, ok, q⟩ := h
  refine ⟨_, (pss_cons (ps_asg (pv 0) (pg_tup (by rfl) (pgs_cons (pg_name (i := 1) sc_law_trim.nd rfl (Or.inl rfl)) (pgs_cons (pg_name (i := 2) sc_law_trim.nd rfl (Or.inl rfl)) pgs_nil))))
      (pss_cons (ps_asg (pe_tup (pa_cons (pe_disp (pps_cons pe_int pe_bl pps_nil) (by rfl) (by rfl) (fun z => by cases z) (by decide)) (pa_cons pe_dnewK pa_nil))) (pg_tup (by rfl) (pgs_cons (pg_name (i := 3) sc_law_trim.nd rfl (Or.inr rfl)) (pgs_cons (pg_name (i := 4) sc_law_trim.nd rfl (Or.inr rfl)) pgs_nil))))
      (pss_cons (ps_for PassesOwn.never rfl (pi_range1 (by rfl) Z.range (pa_cons (pe_callB (id := "len") call_len_seq (by rfl) Z.len (by decide +kernel) (pa_cons (pv 2) pa_nil)) pa_nil)) (pg_name (i := 5) sc_law_trim.nd rfl (Or.inl rfl)) (pss_one (ps_for PassesOwn.never rfl (pi_range1 (by rfl) Z.range (pa_cons (pe_callB (id := "len") call_len_seq (by rfl) Z.len (by decide +kernel) (pa_cons (pv 2) pa_nil)) pa_nil)) (pg_name (i := 6) sc_law_trim.nd rfl (Or.inl rfl)) (pss_cons (ps_setLc (i := 7) (own := [("_law_step", 11)]) (g := gName 11) (tt := _) rfl sc_law_trim.nd rfl rfl (sw_true rfl rfl rfl (by decide +kernel)) (pi_tup (pe_ix ix_tup (pe_ix ix_tup (pv 2) (pv 6) (fun _ _ => rfl)) pe_int (fun _ _ => rfl))) (blkOk_by (N := ["_law_machine_here", "_law_size", "_law_rows", "_law_first", "_law_last", "_law_turn", "_law_state", "_law_later", "_law_stays", "_law_found", "_law_steps", "_law_step", "_law_other"]) (sc := defScope s_law_trim) (by decide +kernel)) (fun _ _ _ _ _ => (pg_name (i := 11) sc_law_trim.nd rfl (Or.inl rfl))) (fun _ _ _ _ _ => (pts_one (pt_cmpR op_notN (pv 11) pe_non (nomark _)))) (fun _ _ _ _ _ => (pe_ix (r := rIxT K) ix_tup (pv 11) pe_int (fun _ _ => rfl))))
      (pss_cons (ps_if (pt_cmp (pc_din (hu_of hr) (pv 6) (pv 3))) (pss_one (ps_expr (pe_bm PySem.F.plainAttrs_dict PySem.F.slot_dict_update PySem.F.type_dict_update mt_dupd (pv 3) (pa_cons (pe_callTy (T := "dict") (call_dictP rfl) (by rfl) Gd.dict (by decide +kernel) (pa_cons (pe_lc (own := [("_law_other", 12)]) (g := gName 12) (tt := tYes) rfl sc_law_trim.nd (pi_list (pv 7)) (blkOk_by (N := ["_law_machine_here", "_law_size", "_law_rows", "_law_first", "_law_last", "_law_turn", "_law_state", "_law_later", "_law_stays", "_law_found", "_law_steps", "_law_step", "_law_other"]) (sc := defScope s_law_trim) (by decide +kernel)) (fun _ _ _ _ _ => (pg_name (i := 12) sc_law_trim.nd rfl (Or.inl rfl))) (fun _ _ _ _ _ => pts_nil) (fun _ _ _ _ _ => (pe_tup (pa_cons (pv 12) (pa_cons pe_bl pa_nil))))) pa_nil)) pa_nil)))) pss_nil)
      (pss_one (ps_if (PW.pt (pw_or (pt_cmpR op_notN (pe_ix ix_tup (pe_ix ix_tup (pv 2) (pv 6) (fun _ _ => rfl)) pe_int (fun _ _ => rfl)) pe_non (nomark _)) (pw_or1 (pt_val (pe_callB (id := "any") (cr_any rfl) (by rfl) Z.any (by decide +kernel) (pa_cons (pe_lc (own := [("_law_other", 12)]) (g := gName 12) (tt := tYes) rfl sc_law_trim.nd (pi_list (pv 7)) (blkOk_by (N := ["_law_machine_here", "_law_size", "_law_rows", "_law_first", "_law_last", "_law_turn", "_law_state", "_law_later", "_law_stays", "_law_found", "_law_steps", "_law_step", "_law_other"]) (sc := defScope s_law_trim) (by decide +kernel)) (fun _ _ _ _ _ => (pg_name (i := 12) sc_law_trim.nd rfl (Or.inl rfl))) (fun _ _ _ _ _ => pts_nil) (fun _ _ _ _ _ => (pe_cmp (pc_din (hu_of hr) (pv 12) (pv 4)) rfl))) pa_nil)))))) (pss_one (ps_dput (hu_of hr) (pv 4) (pv 6) pe_bl rfl)) pss_nil)))))))
      (pss_cons (ps_if (pt_cmp (pc_dnotin (hu_of hr) pe_int (pv 4))) (pss_one (ps_ret (pe_tup (pa_cons (pv 1) (pa_cons (pe_tup (pa_cons (pe_tup (pa_cons pe_non (pa_cons (pe_op op_repN (pe_tup (pa_cons pe_non pa_nil)) (pv 1)) pa_nil))) pa_nil)) pa_nil))))) pss_nil)
      (pss_cons (ps_setLc (i := 8) (own := [("_law_state", 6)]) (g := gName 6) (tt := _) rfl sc_law_trim.nd rfl rfl (sw_true rfl rfl rfl (by decide +kernel)) (pi_range1 (by rfl) Z.range (pa_cons (pe_callB (id := "len") call_len_seq (by rfl) Z.len (by decide +kernel) (pa_cons (pv 2) pa_nil)) pa_nil)) (blkOk_by (N := ["_law_machine_here", "_law_size", "_law_rows", "_law_first", "_law_last", "_law_turn", "_law_state", "_law_later", "_law_stays", "_law_found", "_law_steps", "_law_step", "_law_other"]) (sc := defScope s_law_trim) (by decide +kernel)) (fun _ _ _ _ _ => (pg_name (i := 6) sc_law_trim.nd rfl (Or.inl rfl))) (fun _ _ _ _ _ => (pts_one (PW.pt (pw_and (pt_cmp (pc_din (hu_of hr) (pv 6) (pv 3))) (pw_and1 (pt_cmp (pc_din (hu_of hr) (pv 6) (pv 4)))))))) (fun _ _ _ _ _ => (pv 6)))
      (pss_cons (ps_set (i := 9) sc_law_trim.nd rfl (Or.inl rfl) (pe_lst pa_nil))
      (pss_cons (ps_for PassesOwn.never rfl (pi_list (pv 8)) (pg_name (i := 6) sc_law_trim.nd rfl (Or.inl rfl)) (pss_cons (ps_set (i := 10) sc_law_trim.nd rfl (Or.inl rfl) (pe_lst pa_nil))
      (pss_cons (ps_for PassesOwn.never rfl (pi_tup (pe_ix ix_tup (pe_ix ix_tup (pv 2) (pv 6) (fun _ _ => rfl)) pe_int (fun _ _ => rfl))) (pg_name (i := 11) sc_law_trim.nd rfl (Or.inl rfl)) (pss_one (ps_expr (pe_bm PySem.F.plainAttrs_list PySem.F.slot_list_append PySem.F.type_list_append mt_append (pv 10) (pa_cons (pe_ifExp (PW.pt (pw_and (pt_cmpR op_notN (pv 11) pe_non (nomark _)) (pw_and1 (pt_cmpR op_in_seq (pe_ix ix_tup (pv 11) pe_int (fun _ _ => rfl)) (pv 8) (by rfl))))) (pe_tup (pa_cons (pe_ix ix_tup (pv 11) pe_int (fun _ _ => rfl)) (pa_cons (pe_bm PySem.F.plainAttrs_list PySem.F.slot_list_index PySem.F.type_list_index mt_index (pv 8) (pa_cons (pe_ix ix_tup (pv 11) pe_int (fun _ _ => rfl)) pa_nil)) pa_nil))) pe_non) pa_nil)))))
      (pss_one (ps_expr (pe_bm PySem.F.plainAttrs_list PySem.F.slot_list_append PySem.F.type_list_append mt_append (pv 9) (pa_cons (pe_tup (pa_cons (pe_ix ix_tup (pe_ix ix_tup (pv 2) (pv 6) (fun _ _ => rfl)) pe_int (fun _ _ => rfl)) (pa_cons (pe_callTy (T := "tuple") call_tuple_of (by rfl) Z.tuple (by decide +kernel) (pa_cons (pv 10) pa_nil)) pa_nil))) pa_nil)))))))
      (pss_one (ps_ret (pe_tup (pa_cons (pv 1) (pa_cons (pe_callTy (T := "tuple") call_tuple_of (by rfl) Z.tuple (by decide +kernel) (pa_cons (pv 9) pa_nil)) pa_nil)))))))))))), ?_⟩
  have n1 := ok.n1
  have n30 := ok.n30
  have z8 := ok.z8
  have z1 := ok.z1
  obtain ⟨p, pr, us, rfl, ep, epr, ar, _⟩ := At.mach hu
  have lu := ar.len
  refine ⟨_, rfl, p, _, rfl, .of ep, rfl, _, _, rfl, _, _, rfl, rfl, ?_⟩
  -- first, last
  refine fun F nF => ⟨upd_same, [(Sum.inl 0, .bl true)], rfl, by decide, fun L nL => ⟨(by show 2 ≤ sizeLine; decide), fun T nT => ?_⟩⟩
  have eFL : ∃ G0, Same H G0 ∧ G0 F = some (.dK (flags [0])) ∧ G0 L = some (.dK []) ∧ F ≠ L ∧ H L = none ∧ G0 = upd (upd (upd (upd H F (.dK [])) F (.dK (mergeK [] [(Sum.inl 0, .bl true)]))) L (.dK [])) T (.tup [.ref F, .ref L]) := by
    have y1 : Same H (upd (upd H F (.dK [])) F (.dK (mergeK [] [(Sum.inl 0, .bl true)]))) := Same.upd_new (same_new nF _) nF _
    have y2 := same_new nL (.dK [])
    have y3 := same_new nT (.tup [V.ref F, .ref L])
    exact ⟨_, y1.trans (y2.trans y3), y3 _ _ (y2 _ _ upd_same), y3 _ _ upd_same, (fun h => by rw [h, upd_same] at nL; cases nL), Same.free y1 nL, rfl⟩
  obtain ⟨G0, s0, eF0, eL0, nFL, nLH, eG0⟩ := eFL
  refine ⟨T, _, rfl, .of upd_same, rfl, _, _, rfl, _, _, rfl, rfl, ?_⟩
  rw [← eG0]
  clear eG0 nL nT
  refine ⟨_, rfl, pr, us, rfl, .inr (.of (s0 _ _ epr)), _, rfl, by omega, by omega, ?_⟩
  rw [lu, Int.toNat_natCast]
  refine for_range (lo := 0) (n := rows.length) (fun t σ' G => Same H G ∧ ∃ (kf kl : List (Key × V)) (y5 y6 y7 : Option V), σ' = [some (.ref p), some (.int z), some (.ref pr), some (.ref F), some (.ref L), y5, y6, y7, none, none, none, none, none] ∧ G F = some (.dK kf) ∧ G L = some (.dK kl) ∧ kf.length ≤ 1 + 240 * t ∧ kl.length ≤ 30 * t ∧ inK kf 0 = true ∧ (∀ s, inK kf s = true → s < rows.length ∧ Rc rows 0 s) ∧ (∀ s, inK kl s = true → s < rows.length ∧ lvE rows s) ∧ (ClF rows (inK kf) ∨ t + 1 ≤ cntB (inK kf) rows.length) ∧ (ClL rows (inK kl) ∨ t ≤ cntB (inK kl) rows.length))
    ⟨s0, flags [0], [], none, none, none, rfl, eF0, eL0, by decide, by decide, by decide, fun s hs => ?_, (fun s hs => nomatch hs), .inr (cntB_pos (by decide) n1), .inr (Nat.zero_le _)⟩ (fun t σ' G ht hh => ?_) (fun σ' G hh => ?_)
  · rw [inK_flags, decide_eq_true_eq, List.mem_singleton] at hs
    subst hs
    exact ⟨n1, Rc.rfl' rows 0⟩
  · obtain ⟨sG, kf, kl, y5, y6, y7, rfl, eF, eL, lkf, lkl, f0, sF, sL, cF, cL⟩ := hh
    refine ⟨_, rfl, pr, us, rfl, .inr (.of (sG _ _ epr)), _, rfl, by omega, by omega, ?_⟩
    rw [lu, Int.toNat_natCast]
    refine for_range (lo := 0) (n := rows.length) (fun i σ' G => Same H G ∧ ∃ (kf1 kl1 : List (Key × V)) (y6 y7 : Option V), σ' = [some (.ref p), some (.int z), some (.ref pr), some (.ref F), some (.ref L), some (.int (0 + (t : Nat))), y6, y7, none, none, none, none, none] ∧ G F = some (.dK kf1) ∧ G L = some (.dK kl1) ∧ kf1.length ≤ 1 + 240 * t + 8 * i ∧ kl1.length ≤ 30 * t + i ∧ inK kf1 0 = true ∧ RndF rows i (inK kf) (inK kf1) ∧ RndL rows i (inK kl) (inK kl1))
      ⟨sG, kf, kl, _, _, rfl, eF, eL, by omega, by omega, f0, .start sF, .start sL⟩ (fun i σ' G1 hi hh => ?_) (fun σ' G1 hh => ?_)
    · obtain ⟨sG1, kf1, kl1, y6', y7', rfl, eF1, eL1, lkf1, lkl1, f01, rF, rL⟩ := hh
      obtain ⟨pu, ve, ps, vs, e, ss, b1, b2, b3, b4, b5, b6, b7, b8, b9⟩ := row_at (ar.same sG1) ok hi
      have epr1 := sG1 _ _ epr
      have lvs := b8.len
      have a0i : atI us (0 + (i : Int)) = some (.ref pu) := by rw [Int.zero_add]; exact atI_nat b1
      have nxi : nxl rows i = ss.filterMap tgt := by
        show ((nxs rows)[i]?).getD [] = _
        rw [nxs_getD, b4]; rfl
      -- later
      refine ⟨_, rfl, _, rfl, pr, us, _, .ref pu, rfl, rfl, .of epr1, a0i, pu, _, 1, .ref ps, rfl, rfl, .of b2, rfl, ps, rfl, ⟨_, .of b3⟩, fun D2 hD2 => lc_tup (xs := vs) (fun j2 G => Same G1 G ∧ G D2 = some (.lst (((ss.take j2).filterMap tgt).map nV))) ⟨same_new hD2 _, upd_same⟩ (fun j2 G _ p2 => .of (p2.1 _ _ b3)) (fun j2 x2 G ex2 p2 => ?_) (fun G2 p2 => ?_)⟩
      · obtain ⟨sGa, eD2⟩ := p2
        have lj : j2 < ss.length := by rw [← lvs]; exact (List.getElem?_eq_some_iff.mp ex2).1
        have lf : (((ss.take j2).filterMap tgt).map nV).length < sizeLine := by
          rw [List.length_map, sizeLine_eq]
          have := List.length_filterMap_le tgt (ss.take j2)
          rw [List.length_take] at this
          omega
        refine ⟨rfl, _, rfl, rfl, _, rfl, ?_⟩
        rcases st_get (b8.same sGa) b9 ex2 with ⟨f1, rfl⟩ | ⟨q2, m, s2, f1, rfl, f2, _, m0, m1, s0, s1⟩
        · refine iteF ⟨sGa, ?_⟩
          rw [List.take_add_one, f1, List.filterMap_append]
          show G D2 = some (.lst (((List.take j2 ss).filterMap tgt ++ []).map nV))
          rw [List.append_nil]
          exact eD2
        · refine iteT ⟨_, rfl, q2, _, 1, .int s2, rfl, rfl, .of f2, rfl, _, eD2, lf, Same.upd_new sGa hD2 _, ?_⟩
          rw [upd_same, List.take_add_one, f1, List.filterMap_append, List.map_append]
          show some (HO.lst (_ ++ [V.int s2])) = some (HO.lst (_ ++ [V.int ((s2.toNat : Nat) : Int)]))
          rw [show ((s2.toNat : Nat) : Int) = s2 by omega]
      obtain ⟨sG2, eD2⟩ := p2
      rw [lvs, List.take_length, ← nxi] at eD2
      have lnx : (nxl rows i).length ≤ 8 := by
        rw [nxi]
        have := List.length_filterMap_le tgt ss
        omega
      have nD2H : H D2 = none := Same.free sG1 hD2
      have nD2F : D2 ≠ F := fun h => by rw [h, eF1] at hD2; cases hD2
      have nD2L : D2 ≠ L := fun h => by rw [h, eL1] at hD2; cases hD2
      have sH2 := sG1.trans sG2
      have eF2 := sG2 _ _ eF1
      have eL2 := sG2 _ _ eL1
      dsimp only [gName]
      -- if state in first
      refine rd_ifx (fun G' => Same H G' ∧ ∃ kf2, G' F = some (.dK kf2) ∧ G' L = some (.dK kl1) ∧ G' D2 = some (.lst ((nxl rows i).map nV)) ∧ kf2.length ≤ 1 + 240 * t + 8 * (i + 1) ∧ inK kf2 0 = true ∧ ∀ s, inK kf2 s = true ↔ inK kf1 s = true ∨ (inK kf1 i = true ∧ s ∈ nxl rows i)) (fun N hN => ?_) (fun G3 h3 => ?_)
      · refine ⟨_, rfl, _, rfl, F, _, rfl, (by rw [Int.zero_add]; exact DGet.k (k := Sum.inl (i : Int)) eF2), _, rfl, iteB (fun c => ?_) (fun c => ?_)⟩
        · have ci : inK kf1 i = true := c
          refine ⟨_, rfl, .inr (.inr (.inl ⟨rfl, .inl ⟨_, eF2⟩⟩)), ?_⟩
          refine ⟨_, rfl, D2, rfl, ⟨_, .of eD2⟩, lc_newW (f := fun j => .tup [.int (((nxl rows i)[j]?).getD 0 : Nat), .bl true]) walk_list (fun _ _ _ _ h => h) (fun G' s' => .of (s' _ _ eD2)) (by rw [List.length_map]; omega) (fun _ => rfl) (fun j x Ga hj ex sa R hR => ?_) (fun D3 Gb vsb sb nD3 eD3 aD3 => ?_)⟩
          · obtain ⟨u, eu, rfl⟩ := map_get ex
            refine ⟨_, rfl, (by show 2 ≤ sizeLine; decide), fun p9 n9 => hR _ _ (same_new n9 _) ⟨p9, _, rfl, Trk.not n9, upd_same, .cons ?_ (.cons rfl .nil)⟩⟩
            rw [eu]; rfl
          · rw [List.length_map, range_map_get (fun u : Nat => Th.tup [.int (u : Int), .bl true]) 0] at aD3
            obtain ⟨pp, rfl, pd⟩ := pairs_flags (K := K) aD3
            refine ⟨D3, pp, flags (nxl rows i), rfl, .of eD3, pd, fun E4 n4 => ?_⟩
            have y4 := same_new n4 (.dK (mergeK [] (flags (nxl rows i))))
            have eFb := sb _ _ eF2
            have sb4 := sb.trans y4
            have nE4F : F ≠ E4 := fun h => by rw [← h, eFb] at n4; cases n4
            have lm : (mergeK [] (flags (nxl rows i))).length ≤ 8 := Nat.le_trans (length_mergeK _ _) (by rw [List.length_map]; show 0 + _ ≤ 8; omega)
            have lm2 := length_mergeK (mergeK [] (flags (nxl rows i))) kf1
            refine ⟨F, E4, kf1, _, rfl, rfl, nE4F, y4 _ _ eFb, upd_same, by rw [sizeLine_eq]; omega, hN _ ⟨Same.upd_new (sH2.trans sb4) nF _, _, upd_same, by rw [upd_ne (fun h => nFL h.symm)]; exact sb4 _ _ eL2, by rw [upd_ne nD2F]; exact sb4 _ _ eD2, by omega, by rw [inK_up, f01]; rfl, fun s => ?_⟩⟩
            rw [inK_up, Bool.or_eq_true, decide_eq_true_eq]
            exact or_congr Iff.rfl ⟨fun h => ⟨ci, h⟩, fun h => h.2⟩
        · have ci : ¬ inK kf1 i = true := fun h => by
            have c' : inK kf1 i = false := c
            rw [h] at c'; cases c'
          exact hN _ ⟨sH2, kf1, eF2, eL2, eD2, by omega, f01, fun s => ⟨.inl, fun h => h.elim id fun h => absurd h.1 ci⟩⟩
      obtain ⟨sG3, kf2, eF3, eL3, eD3, lkf2, f02, mem2⟩ := h3
      have rF2 := rF.next ok hi mem2
      obtain ⟨pu', ve', ps', vs', e', ss', b1', b2', b3', b4', b5', b6', b7', b8', b9'⟩ := row_at (ar.same sG3) ok hi
      have a0i' : atI us (0 + (i : Int)) = some (.ref pu') := by rw [Int.zero_add]; exact atI_nat b1'
      have endi : isEnd rows i ↔ ¬ ve' = .non := by
        unfold isEnd
        rw [b4']
        show ¬ e' = .non ↔ _
        rcases b6' with ⟨rfl, rfl⟩ | ⟨i0, rfl, rfl⟩
        · exact ⟨(fun h => absurd rfl h), (fun h => absurd rfl h)⟩
        · exact ⟨(fun _ h => nomatch h), (fun _ h => nomatch h)⟩
      have setL : ∀ G4, Same H G4 → G4 F = some (.dK kf2) → G4 L = some (.dK kl1) → (isEnd rows i ∨ ∃ u ∈ nxl rows i, inK kl1 u = true) → Same H (upd G4 L (.dK (putK kl1 (Sum.inl (i : Int)) (.bl true)))) ∧ (upd G4 L (.dK (putK kl1 (Sum.inl (i : Int)) (.bl true)))) F = some (.dK kf2) ∧ RndL rows (i + 1) (inK kl) (inK (putK kl1 (Sum.inl (i : Int)) (.bl true))) ∧ (putK kl1 (Sum.inl (i : Int)) (.bl true)).length ≤ 30 * t + (i + 1) := fun G4 s4 e1 e2 hq => by
        refine ⟨Same.upd_new s4 nLH _, by rw [upd_ne nFL]; exact e1, rL.next ok hi fun s => ?_, ?_⟩
        · rw [inK_put, Bool.or_eq_true, decide_eq_true_eq]
          exact ⟨fun h => h.elim (fun h => .inr ⟨h, hq⟩) .inl, fun h => h.elim .inr fun h => .inl h.1⟩
        · have := length_putK kl1 (Sum.inl (i : Int)) (.bl true)
          omega
      refine ⟨_, rfl, _, rfl, pr, us, _, .ref pu', rfl, rfl, .of (sG3 _ _ epr), a0i', pu', _, 0, ve', rfl, rfl, .of b2', rfl, rfl, _, rfl, iteB (fun c => ?_) (fun c => ?_)⟩
      · have hq : isEnd rows i := endi.mpr (of_decide_eq_false (not_true c))
        obtain ⟨f1, f2, f3, f4⟩ := setL G3 sG3 eF3 eL3 (.inl hq)
        exact ⟨_, rfl, _, rfl, L, _, rfl, (by rw [Int.zero_add]; exact DPut.k (k := Sum.inl (i : Int)) eL3 (by rw [sizeLine_eq]; omega)), f1, _, _, _, _, rfl, f2, upd_same, lkf2, f4, f02, rF2, f3⟩
      · have ne : ¬ isEnd rows i := fun h => endi.mp h (of_decide_eq_true (not_false' c))
        refine ⟨_, rfl, D2, rfl, ⟨_, .of eD3⟩, lc_valW (f := fun j => .bl (inK kl1 (((nxl rows i)[j]?).getD 0))) (p := fun _ => true) walk_list (fun _ _ _ _ h => h) (fun G' s' => .of (s' _ _ eD3)) (by rw [List.length_map]; omega) (fun _ => rfl) (fun j x G hj ex sG R hR => hR G (Same.refl G)) (fun j x Ga hj ex hp sa R hR => ?_) (fun B Gb sb nB eB => ?_)⟩
        · obtain ⟨u, eu, rfl⟩ := map_get ex
          have := hR Ga (Same.refl Ga)
          rw [eu] at this
          exact ⟨_, rfl, _, rfl, L, _, rfl, DGet.k (k := Sum.inl (u : Int)) (sa _ _ eL3), this⟩
        · rw [filt_all, List.length_map] at eB
          have eB' : Gb B = some (.lst (((nxl rows i).map (inK kl1)).map V.bl)) := by
            rw [eB, List.map_map]
            congr 2
            exact range_map_get (fun u => V.bl (inK kl1 u)) 0 (nxl rows i)
          refine ⟨B, _, rfl, .of eB', _, rfl, iteB (fun c2 => ?_) (fun c2 => ?_)⟩
          · have hq : ∃ u ∈ nxl rows i, inK kl1 u = true := by
              rw [List.any_map, List.any_eq_true] at c2
              exact c2
            obtain ⟨f1, f2, f3, f4⟩ := setL Gb (sG3.trans sb) (sb _ _ eF3) (sb _ _ eL3) (.inr hq)
            exact ⟨_, rfl, _, rfl, L, _, rfl, (by rw [Int.zero_add]; exact DPut.k (k := Sum.inl (i : Int)) (sb _ _ eL3) (by rw [sizeLine_eq]; omega)), f1, _, _, _, _, rfl, f2, upd_same, lkf2, f4, f02, rF2, f3⟩
          · have nq : ¬ ∃ u ∈ nxl rows i, inK kl1 u = true := fun ⟨u, m, k⟩ => by
              rw [List.any_map] at c2
              exact List.any_eq_false.mp c2 u m k
            exact ⟨sG3.trans sb, _, _, _, _, rfl, sb _ _ eF3, sb _ _ eL3, lkf2, by omega, f02, rF2, rL.next ok hi fun s => ⟨.inl, fun h => h.elim id fun h => h.2.elim (fun h => absurd h ne) fun h => absurd h nq⟩⟩
    · obtain ⟨sG1, kf1, kl1, y6', y7', rfl, eF1, eL1, lkf1, lkl1, f01, rF, rL⟩ := hh
      exact ⟨sG1, kf1, kl1, _, _, _, rfl, eF1, eL1, by omega, by omega, f01, rF.snd, rL.snd, rF.fin ok cF, rL.fin cL⟩
  · obtain ⟨sG, kf, kl, y5, y6, y7, rfl, eF, eL, lkf, lkl, f0, sF, sL, cF, cL⟩ := hh
    have mF := doneF ok f0 sF cF
    have mL := doneL ok sL cL
    clear cF cL lkf lkl
    refine ⟨_, rfl, L, _, rfl, DGet.k (k := Sum.inl (0 : Int)) eL, _, rfl, iteB (fun c => ?_) (fun c => ?_)⟩
    · have c' : inK kl 0 = false := not_true c
      have h0 : 0 ∉ keep rows := fun m => by
        have := (mL 0 n1).mpr (mem_keep.mp m).2.2
        rw [c'] at this; cases this
      have hk : keep rows = [] := Classical.byContradiction fun n => h0 (keep_zero ok.n1 (keep_ne ok.n1 n))
      have fin : ∀ (pz : Addr) (Ga : Hp), Same H Ga → ¬ Trk H pz → Ga pz = some (.tup (List.replicate z.toNat .non)) → ∀ p2, Ga p2 = none → ∀ p3, upd Ga p2 (.tup [.non, .ref pz]) p3 = none → ∀ p4, upd (upd Ga p2 (.tup [.non, .ref pz])) p3 (.tup [.ref p2]) p4 = none → Q (.ref p4) (upd (upd (upd Ga p2 (.tup [.non, .ref pz])) p3 (.tup [.ref p2])) p4 (.tup [.int z, .ref p3])) := by
        intro pz Ga sGa nz ez p2 n2 p3 n3 p4 n4
        have y2 := same_new n2 (.tup [.non, .ref pz])
        have y3 := same_new n3 (.tup [.ref p2])
        have y4 := same_new n4 (.tup [.int z, .ref p3])
        have y34 := y3.trans y4
        refine q _ _ (sGa.trans (y2.trans y34)) ?_
        have tr : ∀ {a : Addr}, Trk H a → Trk Ga a := fun t => Trk.same sGa t
        have eT : trimT z rows = .tup [.int z, .tup [bareRow z]] := by unfold trimT trimL; rw [if_pos hk]
        rw [eT]
        refine ⟨p4, _, rfl, fun t => Trk.not n4 (Trk.same (y2.trans y3) (tr t)), upd_same, .cons rfl (.cons ⟨p3, _, rfl, fun t => Trk.not n3 (Trk.same y2 (tr t)), y4 _ _ upd_same, .cons ⟨p2, _, rfl, fun t => Trk.not n2 (tr t), y34 _ _ upd_same, .cons rfl (.cons ⟨pz, _, rfl, nz, y2.trans y34 _ _ ez, ?_⟩ .nil)⟩ .nil⟩ .nil)⟩
        exact atAll_rep _
      refine ⟨_, rfl, (by show 1 ≤ sizeLine; decide), fun p1 np1 => ⟨_, rfl, p1, z, _, rfl, rfl, .of upd_same, by omega, by omega, (by show 1 ≤ 1000; decide), fun er => ?_, fun p5 np5 => ?_⟩⟩
      · rw [repV_single] at er
        refine ⟨(by show 2 ≤ sizeLine; decide), fun p2 n2 => ⟨(by show 1 ≤ sizeLine; decide), fun p3 n3 => ⟨(by show 2 ≤ sizeLine; decide), fun p4 n4 => ?_⟩⟩⟩
        exact fin p1 _ (sG.trans (same_new np1 _)) (fun t => Trk.not np1 (Trk.same sG t)) (by rw [upd_same, er]) p2 n2 p3 n3 p4 n4
      · rw [repV_single]
        have y5 := same_new np5 (.tup (List.replicate z.toNat V.non))
        refine ⟨(by show 2 ≤ sizeLine; decide), fun p2 n2 => ⟨(by show 1 ≤ sizeLine; decide), fun p3 n3 => ⟨(by show 2 ≤ sizeLine; decide), fun p4 n4 => ?_⟩⟩⟩
        exact fin p5 _ (sG.trans ((same_new np1 _).trans y5)) (fun t => Trk.not np5 (Trk.same (sG.trans (same_new np1 _)) t)) upd_same p2 n2 p3 n3 p4 n4
    · have c' : inK kl 0 = true := not_false' c
      have h0 : 0 ∈ keep rows := keep_zero n1 ((mL 0 n1).mp c')
      have hk : keep rows ≠ [] := fun h => by rw [h] at h0; cases h0
      have kB : ∀ j, j < rows.length → (inK kf j && inK kl j) = keepB rows j := fun j hj => by
        rw [Bool.eq_iff_iff, Bool.and_eq_true, mF, mL j hj, keepB_iff]
        exact Iff.rfl
      -- stays
      refine ⟨_, rfl, pr, us, rfl, .inr (.of (sG _ _ epr)), _, rfl, by omega, by omega, ?_⟩
      rw [lu, Int.toNat_natCast]
      refine lc_valW (f := fun j => nV j) (p := keepB rows) (walk_range (lo := 0) (n := rows.length)) (fun _ _ _ _ h => h) (fun _ _ => trivial) (by omega) (fun _ => rfl) (fun j x Ga hj ex sa R hR => ?_) (fun j x Ga hj ex hp sa R hR => ?_) (fun S H3 s3 nS eS => ?_)
      · cases (show x = _ from ex)
        have r' := hR Ga (Same.refl Ga)
        rw [← kB j hj] at r'
        dsimp only
        rw [show (0 : Int) + (j : Int) = (j : Int) by omega]
        refine ⟨_, rfl, _, rfl, F, _, rfl, DGet.k (k := Sum.inl (j : Int)) (sa _ _ eF), _, rfl, iteB (fun c1 => ?_) (fun c1 => ?_)⟩
        · have c1' : inK kf j = true := c1
          rw [c1', Bool.true_and] at r'
          exact ⟨_, rfl, _, rfl, L, _, rfl, DGet.k (k := Sum.inl (j : Int)) (sa _ _ eL), _, rfl, r'⟩
        · have c1' : inK kf j = false := c1
          rw [c1', Bool.false_and] at r'
          exact r'
      · cases (show x = _ from ex)
        refine ⟨_, rfl, ?_⟩
        show R (V.int (0 + (j : Int))) Ga
        rw [show (0 : Int) + (j : Int) = (j : Int) by omega]
        exact hR Ga (Same.refl Ga)
      have eS' : H3 S = some (.lst ((keep rows).map nV)) := eS
      clear eS
      have s03 := sG.trans s3
      have lk := keep_len rows
      -- found
      refine ⟨(by show 0 ≤ sizeLine; decide), fun R nR => ?_⟩
      have zR := same_new nR (.lst [])
      have nRH : H R = none := Same.free s03 nR
      have nSR : S ≠ R := fun e => by rw [e, nR] at eS'; cases eS'
      refine ⟨_, rfl, S, rfl, ⟨_, .of (zR _ _ eS')⟩, for_list (xs := (keep rows).map nV) (fun j σ' H' => Same H3 H' ∧ ∃ (vs : List V) (y6 y10 y11 : Option V), σ' = [some (.ref p), some (.int z), some (.ref pr), some (.ref F), some (.ref L), y5, y6, y7, some (.ref S), some (.ref R), y10, y11, none] ∧ H' R = some (.lst vs) ∧ AtAll (fun a => a = R ∨ Trk H a) H' (((keep rows).take j).map fun s => renT (keep rows) ((rows[s]?).getD .non)) vs)
        ⟨zR, [], _, _, _, rfl, upd_same, .nil⟩ (fun j σ' H' _ p' => .of (p'.1 _ _ eS')) (fun j x σ' H' ex p' => ?_) (fun σ' H' p' => ?_)⟩
      · obtain ⟨t, et, rfl⟩ := map_get ex
        obtain ⟨s', vs, y6, y10, y11, rfl, eR, aR⟩ := p'
        have mk := List.mem_of_getElem? et
        have lt := (mem_keep.mp mk).1
        have lj := (List.getElem?_eq_some_iff.mp et).1
        have s0 := s03.trans s'
        refine ⟨(by show 0 ≤ sizeLine; decide), fun T nT => ?_⟩
        have zT := same_new nT (.lst [])
        have nTR : T ≠ R := fun h => by rw [h, eR] at nT; cases nT
        have nTH := Same.free s0 nT
        have sT := s0.trans zT
        have arT : AtAll (fun a => a = T) (upd H' T (.lst [])) rows us := (ar.same s0).step (.of zT) (fun a _ tr (e : a = T) => tr (by rw [e]; exact nT))
        obtain ⟨pu, ve, ps, vs2, e, ss2, b1, b2, b3, b4, b5, b6, b7, b8, b9⟩ := row_at arT ok lt
        have ls2 := b8.len
        have eRT := zT _ _ eR
        have eST := zT _ _ (s' _ _ eS')
        have zz : ∀ a, (a = R ∨ Trk H a) → Trk (upd H' T (.lst [])) a := fun a h => by
          rcases h with rfl | h
          · exact .of eRT
          · exact Trk.same sT h
        have aR3 : ∀ G2, SB (fun a => a = T) (upd H' T (.lst [])) G2 → AtAll (fun a => a = R ∨ Trk H a) G2 (((keep rows).take j).map fun s => renT (keep rows) ((rows[s]?).getD .non)) vs := fun G2 s => by
          have a1 : AtAll (fun a => a = T ∨ (a = R ∨ Trk H a)) (upd H' T (.lst [])) (((keep rows).take j).map fun s => renT (keep rows) ((rows[s]?).getD .non)) vs := aR.step (.of zT) (fun a h tr e => e.elim (fun e => tr (by rw [e]; exact nT)) h)
          exact (a1.sb (s.mono fun b e => .inl e)).less fun a h => .inr h
        have eprT := sT _ _ epr
        have sHT := s'.trans zT
        have eTT : (upd H' T (.lst [])) T = some (.lst []) := upd_same
        generalize upd H' T (.lst []) = G0' at *
        refine ⟨_, rfl, _, rfl, pr, us, _, .ref pu, rfl, rfl, .of eprT, atI_nat b1, pu, _, 1, .ref ps, rfl, rfl, .of b2, rfl, ps, rfl, ⟨_, .of b3⟩, ?_⟩
        refine for_tup (xs := vs2) (fun j2 σ2 G2 => Same H3 G2 ∧ SB (fun a => a = T) G0' G2 ∧ ∃ (vs3 : List V) (y11 : Option V), σ2 = [some (.ref p), some (.int z), some (.ref pr), some (.ref F), some (.ref L), y5, some (nV t), y7, some (.ref S), some (.ref R), some (.ref T), y11, none] ∧ G2 T = some (.lst vs3) ∧ AtAll (fun a => a = T ∨ (a = R ∨ Trk H a)) G2 ((ss2.take j2).map (renS (keep rows))) vs3)
          ⟨sHT, .rfl', [], _, rfl, eTT, .nil⟩ (fun j2 σ2 G2 _ h2 => .of (h2.2.1 _ _ (fun h => by rw [h, eTT] at b3; cases b3) b3)) (fun j2 x2 σ2 G2 ex2 h2 => ?_) (fun σ2 G2 h2 => ?_)
        · obtain ⟨sA, sB, vs3, y11', rfl, eT2, aT2⟩ := h2
          have lT := aT2.len
          have l3 : vs3.length < sizeLine := by rw [lT, List.length_map, List.length_take, sizeLine_eq]; omega
          have tk : ∀ {st : Th}, ss2[j2]? = some st → (ss2.take (j2 + 1)).map (renS (keep rows)) = (ss2.take j2).map (renS (keep rows)) ++ [renS (keep rows) st] := fun h => by rw [List.take_add_one, h, List.map_append]; rfl
          have eS2 := sA _ _ eS'
          have nTH3 : H3 T = none := Same.free s' nT
          have fin : ∀ (v : V) (st : Th) (G3 : Hp), Same G2 G3 → ss2[j2]? = some st → At (fun a => a = T ∨ (a = R ∨ Trk H a)) G3 (renS (keep rows) st) v → G3 T = some (.lst vs3) ∧ Same H3 (upd G3 T (.lst (vs3 ++ [v]))) ∧ SB (fun a => a = T) G0' (upd G3 T (.lst (vs3 ++ [v]))) ∧ AtAll (fun a => a = T ∨ (a = R ∨ Trk H a)) (upd G3 T (.lst (vs3 ++ [v]))) ((ss2.take (j2 + 1)).map (renS (keep rows))) (vs3 ++ [v]) := fun v st G3 s3 es a3 => by
            have sD : SB (fun a => a = T ∨ (a = R ∨ Trk H a)) G3 (upd G3 T (.lst (vs3 ++ [v]))) := .self (Z := fun a => a = T ∨ (a = R ∨ Trk H a)) (.inl rfl) _
            refine ⟨s3 _ _ eT2, Same.upd_new (sA.trans s3) nTH3 _, (sB.trans (.of s3)).trans (.self (Z := fun a => a = T) rfl _), ?_⟩
            rw [tk es]
            exact ((aT2.same s3).sb sD).append (.cons (a3.sb sD) .nil)
          have zz2 : ∀ a, (a = T ∨ (a = R ∨ Trk H a)) → Trk G2 a := fun a h => by
            rcases h with rfl | h
            · exact .of eT2
            · have := zz a h
              by_cases e : a = T
              · subst e; exact .of eT2
              · intro h0
                cases hq : G0' a with
                | none => exact this hq
                | some o => rw [sB a o e hq] at h0; cases h0
          refine ⟨_, rfl, .inl ⟨rfl, _, .inl (.inl eT2)⟩, ?_⟩
          rcases st_get (b8.sb sB) b9 ex2 with ⟨f1, rfl⟩ | ⟨q2, m, s2', f1, rfl, f2, _, m0, m1, c0, c1⟩
          · obtain ⟨g1, g2, g3, g4⟩ := fin .non .non G2 (Same.refl G2) f1 rfl
            exact ⟨_, rfl, rfl, _, rfl, iteF (iteF ⟨T, vs3, _, rfl, rfl, g1, l3, g2, g3, _, _, rfl, upd_same, g4⟩)⟩
          · obtain ⟨d, rfl⟩ : ∃ d : Nat, s2' = (d : Int) := ⟨s2'.toNat, by omega⟩
            refine ⟨_, rfl, rfl, _, rfl, iteT ⟨_, rfl, q2, _, 1, .int d, rfl, rfl, .of f2, rfl, _, rfl, S, _, rfl, .inl (.of eS2), rfl, flat_ns _, _, rfl, iteB (fun e1 => ?_) (fun e1 => ?_)⟩⟩
            · have h1 : d ∈ keep rows := (inV_ns' d (keep rows)).mp e1
              have hl := List.idxOf_lt_length_of_mem h1
              have hj : ((keep rows).map nV)[(keep rows).idxOf d]? = some (nV d) := get_map (by rw [List.getElem?_eq_getElem hl, List.getElem_idxOf])
              refine ⟨_, rfl, q2, _, 0, .int m, rfl, rfl, .of f2, rfl, _, rfl, .inl ⟨rfl, _, .inl (.inl eS2)⟩, _, rfl, q2, _, 1, .int d, rfl, rfl, .of f2, rfl, S, _, nV d, (keep rows).idxOf d, nV d, rfl, rfl, .of eS2, rfl, flat_ns _, hj, ?_, fun j z' hj2 ez => ?_, ?_⟩
              · show ((d : Int) == (d : Int)) = true
                exact beq_self_eq_true _
              · obtain ⟨y, ey, rfl⟩ := map_get ez
                have hj3 : j < (keep rows).findIdx (· == d) := hj2
                have := List.not_of_lt_findIdx hj3
                have ey2 := (List.getElem?_eq_some_iff.mp ey).2
                rw [ey2] at this
                have ne : y ≠ d := fun e => by rw [e] at this; simp at this
                show ((y : Int) == (d : Int)) = false
                exact beq_eq_false_iff_ne.mpr (by omega)
              · refine ⟨(by show 2 ≤ sizeLine; decide), fun p9 n9 => ?_⟩
                have y9 := same_new n9 (.tup [V.int m, V.int ((keep rows).idxOf d : Nat)])
                obtain ⟨g1, g2, g3, g4⟩ := fin (.ref p9) _ _ y9 f1 (by
                  rw [renS, Int.toNat_natCast, if_pos h1]
                  exact ⟨p9, _, rfl, fun h => zz2 _ h n9, upd_same, .cons rfl (.cons rfl .nil)⟩)
                exact ⟨T, vs3, _, rfl, rfl, g1, l3, g2, g3, _, _, rfl, upd_same, g4⟩
            · have h1 : d ∉ keep rows := fun h => by rw [(inV_ns' d (keep rows)).mpr h] at e1; cases e1
              obtain ⟨g1, g2, g3, g4⟩ := fin .non _ G2 (Same.refl G2) f1 (by rw [renS, Int.toNat_natCast, if_neg h1]; rfl)
              exact ⟨T, vs3, _, rfl, rfl, g1, l3, g2, g3, _, _, rfl, upd_same, g4⟩
        · obtain ⟨sA, sB, vs3, y11', rfl, eT2, aT2⟩ := h2
          rw [ls2, List.take_length] at aT2
          have neT : ∀ {a : Addr} {o : HO}, G0' a = some o → a ≠ T → G2 a = some o := fun h ne => sB _ _ ne h
          have tn : ∀ {a : Addr} {xs : List V}, G0' a = some (.tup xs) → a ≠ T := fun h e => by rw [e, eTT] at h; cases h
          have eR2 := neT eRT (fun e => nTR e.symm)
          refine ⟨_, rfl, .inl ⟨rfl, _, .inl (.inl eR2)⟩, ?_⟩
          refine ⟨_, rfl, _, rfl, pr, us, _, .ref pu, rfl, rfl, .of (neT eprT (tn eprT)), atI_nat b1, pu, _, 0, ve, rfl, rfl, .of (neT b2 (tn b2)), rfl, _, rfl, T, vs3, rfl, .inl ⟨.of eT2, fun p5 n5 => ?_⟩⟩
          have y5' := same_new n5 (.tup vs3)
          refine ⟨(by show 2 ≤ sizeLine; decide), fun p6 n6 => ?_⟩
          have y6' := same_new n6 (.tup [ve, .ref p5])
          have y56 := y5'.trans y6'
          have s16 := sA.trans y56
          have aR2 := aR3 _ sB
          have zz2 : ∀ a, (a = R ∨ Trk H a) → Trk G2 a := fun a h => by
            have := zz a h
            by_cases e : a = T
            · subst e; exact .of eT2
            · intro h0
              cases hq : G0' a with
              | none => exact this hq
              | some o => rw [sB a o e hq] at h0; cases h0
          refine ⟨R, vs, _, rfl, rfl, y56 _ _ eR2, by rw [aR.len, List.length_map, List.length_take, sizeLine_eq]; omega, ?_⟩
          have sD : SB (fun a => a = R ∨ Trk H a) (upd (upd G2 p5 (.tup vs3)) p6 (.tup [ve, .ref p5])) (upd (upd (upd G2 p5 (.tup vs3)) p6 (.tup [ve, .ref p5])) R (.lst (vs ++ [.ref p6]))) := .self (Z := fun a => a = R ∨ Trk H a) (.inl rfl) _
          refine ⟨Same.upd_new s16 nR _, vs ++ [.ref p6], _, _, _, rfl, upd_same, ?_⟩
          rw [List.take_add_one, et, List.map_append]
          refine ((aR2.same y56).sb sD).append (.cons (At.sb sD ?_) .nil)
          show At _ _ (renT (keep rows) ((rows[t]?).getD .non)) _
          rw [b4]
          refine ⟨p6, _, rfl, fun h => Trk.not n6 (Trk.same y5' (zz2 _ h)), upd_same, .cons ?_ (.cons ⟨p5, vs3, rfl, fun h => Trk.not n5 (zz2 _ h), y6' _ _ upd_same, ?_⟩ .nil)⟩
          · rcases b6 with ⟨rfl, rfl⟩ | ⟨i, rfl, rfl⟩ <;> rfl
          · exact (aT2.less fun a h => .inr h).same y56
      · obtain ⟨s', vs, y6, y10, y11, rfl, eR, aR⟩ := p'
        rw [List.length_map, List.take_length] at aR
        refine ⟨_, rfl, _, rfl, R, vs, rfl, .inl ⟨.of eR, fun p5 n5 => ?_⟩⟩
        have y5' := same_new n5 (.tup vs)
        refine ⟨(by show 2 ≤ sizeLine; decide), fun p6 n6 => ?_⟩
        have y6' := same_new n6 (.tup [.int z, .ref p5])
        have sA := s03.trans s'
        have eT : trimT z rows = .tup [.int z, .tup ((keep rows).map fun s => renT (keep rows) ((rows[s]?).getD .non))] := by unfold trimT trimL; rw [if_neg hk]
        refine q _ _ (sA.trans (y5'.trans y6')) ?_
        rw [eT]
        refine ⟨p6, _, rfl, fun t => Trk.not n6 (Trk.same (sA.trans y5') t), upd_same, .cons rfl (.cons ⟨p5, vs, rfl, fun t => Trk.not n5 (Trk.same sA t), y6' _ _ upd_same, ?_⟩ .nil)⟩
        exact ((aR.less fun a h => .inr h).same y5').same y6'
end
end KL
end
section
set_option maxHeartbeats 1000000
namespace KL
open PySem PySem.Spec PyProof.Rows L2
def spLRaised : Sp := fun vs H Q _ => ∃ (Z : Zone) (v : V) (a b : Int), vs = [v] ∧ At Z H (.tup [.int a, .int b]) v ∧ 0 < b ∧ a.natAbs < 2 ^ 4000 ∧ b.natAbs < 2 ^ 4000 ∧ ∀ k : Nat, RaiseIs a b k → Q (.int (k : Nat)) H
section
variable {P : Program} {w : World} {K : PySem.W.Frag} {mg : Str → Option Value} {base : Heap} {k : Nat} {t1 t2 t3 : Tok}
end
end KL
end
section
set_option maxHeartbeats 2000000
namespace KL
open PySem PySem.Spec PyProof.Rows L2
abbrev sc_law_worthsN : List Str := ["_law_small", "_law_rows", "_law_state", "_law_end", "_law_steps", "_law_row", "_law_step", "_law_column", "_law_there", "_law_head", "_law_at", "_law_factor", "_law_found", "_law_k", "_law_worth"]
abbrev s_law_worths : Stmt := topS 59
theorem sc_law_worths : FnScope ["_law_small", "_law_rows", "_law_state", "_law_end", "_law_steps", "_law_row", "_law_step", "_law_column", "_law_there", "_law_head", "_law_at", "_law_factor", "_law_found", "_law_k", "_law_worth"] ["_law_small"] (defScope s_law_worths) := ⟨rfl, rfl, rfl, by decide +kernel, rfl, by decide +kernel, by decide +kernel⟩
abbrev sgP (a b : Int) : Th := .tup [.int (a / sgcd a b), .int (b / sgcd a b)]
def spOwn : Sp := fun vs H Q _ => ∃ (Z : Zone) (u : V) (z : Int) (rows : List Th), vs = [u] ∧ At Z H (.tup [.int z, .tup rows]) u ∧ MOk z rows ∧
  (∀ (cur : Nat → Nat → Int) v H', Own rows.length rows.length (eqr rows) cur → (∀ i, i < rows.length → 0 ≤ cur i rows.length * cur i i) → Same H H' → At (Trk H) H' (.tup ((List.range rows.length).map fun i => sgP (cur i rows.length) (cur i i))) v → Q v H') ∧ (¬ PosR rows → ∀ H', Same H H' → Q .non H')
theorem gcN_great {f : Nat → Int} {d : Int} : ∀ {n : Nat}, (∀ j, j < n → d ∣ f j) → d ∣ ((gcN f n : Nat) : Int)
  | 0, _ => Int.dvd_zero _
  | n + 1, h => by
    have a := gcN_great (n := n) fun j hj => h j (by omega)
    have b := h n (by omega)
    exact Int.natAbs_dvd_natAbs.mp (by rw [Int.natAbs_natCast]; exact Nat.dvd_gcd (by have := Int.natAbs_dvd_natAbs.mpr a; rwa [Int.natAbs_natCast] at this) (Int.natAbs_dvd_natAbs.mpr b))
theorem prim_light {f : Nat → Int} {n : Nat} (h : gcN f (n + 1) ≠ 0) : Prim n fun j => f j / ((gcN f (n + 1) : Nat) : Int) := by
  refine .inr fun d hd => ?_
  have g0 : ((gcN f (n + 1) : Nat) : Int) ≠ 0 := by omega
  have : ((gcN f (n + 1) : Nat) : Int) * d ∣ ((gcN f (n + 1) : Nat) : Int) * 1 := by
    rw [Int.mul_one]
    refine gcN_great fun j hj => ?_
    obtain ⟨c, hc⟩ := gcN_dvd (f := f) hj
    obtain ⟨x, hx⟩ := hd j (by omega)
    dsimp only at hx
    rw [hc, Int.mul_ediv_cancel_left _ g0] at hx
    exact ⟨x, by rw [hc, hx, Int.mul_assoc]⟩
  exact Int.dvd_of_mul_dvd_mul_left g0 this
theorem zero_light {f : Nat → Int} {n : Nat} (h : gcN f (n + 1) = 0) {j : Nat} (hj : j ≤ n) : f j = 0 := by
  have := gcN_dvd (f := f) (show j < n + 1 by omega)
  rw [h] at this
  exact Int.zero_dvd.mp this
/-- the rows told in a list -/
structure RowsA (n m : Nat) (R : Addr) (G : Hp) (cur : Nat → Nat → Int) : Prop where
  ex : ∃ ads : Nat → Addr, G R = some (.lst (refs ads m)) ∧ ∀ t, t < m → ads t ≠ R ∧ G (ads t) = some (.lst (rowV (cur t) (n + 1)))
/-- .. each a number times less, and lightened -/
def Fit (n : Nat) (r cur : Nat → Nat → Int) (t : Nat) : Prop := (∃ k : Int, k ≠ 0 ∧ ∀ j, j ≤ n → r t j = k * cur t j) ∧ Prim n (cur t)
theorem refs_swap {ads : Nat → Addr} {n c a : Nat} (hc : c < n) (ha : a < n) : ((refs ads n).set c (.ref (ads a))).set a (.ref (ads c)) = refs (fun i => ads (exch c a i)) n := by
  refine List.ext_getElem? fun i => ?_
  by_cases hi : i < n
  · rw [refs_get hi]
    by_cases e1 : i = a
    · subst e1
      rw [List.getElem?_set_self (by rw [List.length_set, refs_len]; exact hi)]
      unfold exch
      by_cases e2 : i = c
      · subst e2; rw [if_pos rfl]
      · rw [if_neg e2, if_pos rfl]
    · rw [List.getElem?_set_ne (fun h => e1 h.symm)]
      by_cases e2 : i = c
      · subst e2
        rw [List.getElem?_set_self (by rw [refs_len]; exact hi)]
        unfold exch
        rw [if_pos rfl]
      · rw [List.getElem?_set_ne (fun h => e2 h.symm), refs_get hi]
        unfold exch
        rw [if_neg e2, if_neg e1]
  · rw [List.getElem?_eq_none (by rw [List.length_set, List.length_set, refs_len]; omega), List.getElem?_eq_none (by rw [refs_len]; omega)]
theorem refs_set {ads : Nat → Addr} {n t : Nat} {N : Addr} (ht : t < n) : (refs ads n).set t (.ref N) = refs (fun i => if i = t then N else ads i) n := by
  refine List.ext_getElem? fun i => ?_
  by_cases hi : i < n
  · rw [refs_get hi]
    by_cases e1 : i = t
    · subst e1
      rw [List.getElem?_set_self (by rw [refs_len]; exact hi), if_pos rfl]
    · rw [List.getElem?_set_ne (fun h => e1 h.symm), refs_get hi, if_neg e1]
  · rw [List.getElem?_eq_none (by rw [List.length_set, refs_len]; omega), List.getElem?_eq_none (by rw [refs_len]; omega)]
theorem sgn_lt {a b : Int} (hb : b ≠ 0) : a / sgcd a b < 0 ↔ a * b < 0 := by
  obtain ⟨g, a', b', eg, g0, ea, eb, cp⟩ := gcd_parts (a := a) (b := b) hb
  unfold sgcd
  rw [← eg]
  have pos : 0 < g * g := Int.mul_pos g0 g0
  have e2 : a * b = (g * g) * (a' * b') := by rw [ea, eb]; grind
  have sb : (b < 0 ↔ b' < 0) := by
    rw [eb]
    constructor
    · intro h
      refine Classical.byContradiction fun c => ?_
      have : 0 ≤ g * b' := Int.mul_nonneg (by omega) (by omega)
      omega
    · intro h; exact Int.mul_neg_of_pos_of_neg g0 h
  have b0 : b' ≠ 0 := fun h => hb (by rw [eb, h, Int.mul_zero])
  have e3 : a * b < 0 ↔ a' * b' < 0 := by
    rw [e2]
    constructor
    · intro h
      refine Classical.byContradiction fun c => ?_
      have : 0 ≤ (g * g) * (a' * b') := Int.mul_nonneg (by omega) (by omega)
      omega
    · intro h; exact Int.mul_neg_of_pos_of_neg pos h
  rw [e3]
  split
  · next h =>
    have h' := sb.mp h
    have : a / -g = -a' := by rw [Int.ediv_neg, ea, Int.mul_ediv_cancel_left _ (by omega)]
    rw [this]
    constructor
    · intro h2; exact Int.mul_neg_of_pos_of_neg (by omega) h'
    · intro h2
      refine Classical.byContradiction fun c => ?_
      have : 0 ≤ a' * b' := Int.mul_nonneg_of_nonpos_of_nonpos (by omega) (by omega)
      omega
  · next h =>
    have h' : 0 < b' := by
      have := fun x => h (sb.mpr x)
      omega
    have : a / g = a' := by conv => lhs; rw [ea]
                            exact Int.mul_ediv_cancel_left _ (by omega)
    rw [this]
    constructor
    · intro h2; exact Int.mul_neg_of_neg_of_pos h2 h'
    · intro h2
      refine Classical.byContradiction fun c => ?_
      have : 0 ≤ a' * b' := Int.mul_nonneg (by omega) (by omega)
      omega
theorem neV (a : Int) : (!decide (V.int a = V.int 0)) = decide (a ≠ 0) := by
  by_cases h : a = 0
  · subst h; rfl
  · rw [decide_eq_true h, decide_eq_false (fun e => h (by injection e))]; rfl
theorem AtAll.nats {Z : Zone} {H : Hp} : ∀ ns : List Nat, AtAll Z H (ns.map fun i => Th.int (i : Nat)) (ns.map nV)
  | [] => .nil
  | n :: ns => .cons rfl (AtAll.nats ns)
theorem lay_lst {xs : List Th} (h : ∀ x ∈ xs, (py x).canLay0 = true) : (py (.lst xs)).canLay0 = true := by
  rw [py]
  simp only [PyData.canLay0]
  exact layL h
theorem eqv_lnil (ls : List Th) : PyData.eqv (py (.lst ls)) (py (.lst [])) = ls.isEmpty := by
  cases ls with
  | nil => rw [py, pyL]; simp [PyData.eqv, PyData.eqvAll]
  | cons a b => rw [py, py, pyL, pyL]; simp [PyData.eqv, PyData.eqvAll]
theorem dp_nats (ns : List Nat) : dp (.lst (ns.map fun i => Th.int (i : Nat))) ≤ 64 := by
  have : ∀ ns : List Nat, dpL (ns.map fun i => Th.int (i : Nat)) ≤ 1 := fun ns => by
    induction ns with
    | nil => decide
    | cons a r ih =>
      show max (dp (.int _)) (dpL _) ≤ 1
      exact Nat.max_le.mpr ⟨by show 0 ≤ 1; decide, ih⟩
  show dpL _ + 1 ≤ 64
  have := this ns
  omega
section
variable {P : Program} {w : World} {K : PySem.W.Frag} {mg : Str → Option Value} {base : Heap} {k : Nat} {t1 t2 t3 : Tok}
theorem ok_law_worths (Z : Zs mg) (c_law_power : Cal P w K mg base CX0 k "_law_power" ["_law_much"] spPower) (c_law_lighter : Cal P w K mg base CX0 k "_law_lighter" ["_law_row"] spLighter) (c_law_reduced : Cal P w K mg base CX0 k "_law_reduced" ["_law_top", "_law_bottom"] spReduced) (d : Def K mg "_law_worths" s_law_worths ["_law_small"]) : Cal P w K mg base CX0 (k + 1) "_law_worths" ["_law_small"] spOwn := by
  refine d.ok sc_law_worths (fun vs H Q E h => ?_) (fun f cdv A outer s H vs Q E hr h => ?_)
  · obtain ⟨_, _, _, _, rfl, _⟩ := h; rfl
  obtain ⟨Zn, u, z, rows, rfl, hu, ok, q1, q0⟩ := h
  refine ⟨_, (pss_cons (ps_set (i := 1) sc_law_worths.nd rfl (Or.inr rfl) (pe_lst pa_nil))
      (pss_cons (ps_for PassesOwn.never rfl (pi_range1 (by rfl) Z.range (pa_cons (pe_callB (id := "len") call_len_seq (by rfl) Z.len (by decide +kernel) (pa_cons (pe_ix ix_tup (pv 0) pe_int (fun _ _ => rfl)) pa_nil)) pa_nil)) (pg_name (i := 2) sc_law_worths.nd rfl (Or.inl rfl)) (pss_cons (ps_asg (pe_ix ix_tup (pe_ix ix_tup (pv 0) pe_int (fun _ _ => rfl)) (pv 2) (fun _ _ => rfl)) (pg_tup (by rfl) (pgs_cons (pg_name (i := 3) sc_law_worths.nd rfl (Or.inl rfl)) (pgs_cons (pg_name (i := 4) sc_law_worths.nd rfl (Or.inl rfl)) pgs_nil))))
      (pss_cons (ps_set (i := 5) sc_law_worths.nd rfl (Or.inl rfl) (pe_op op_cat (pe_op op_rep (pe_lst (pa_cons pe_int pa_nil)) (pe_callB (id := "len") call_len_seq (by rfl) Z.len (by decide +kernel) (pa_cons (pe_ix ix_tup (pv 0) pe_int (fun _ _ => rfl)) pa_nil))) (pe_lst (pa_cons (pe_ifExp (pt_cmpR op_isN (pv 3) pe_non (nomark _)) pe_int (pe_cal c_law_power hr (by rfl) (pa_cons (pe_op op_sub pe_int (pv 3)) pa_nil))) pa_nil))))
      (pss_cons (ps_asg (pe_op op_pow pe_int pe_int) (pg_sub (pv 5) (pv 2) set_list))
      (pss_cons (ps_for PassesOwn.never rfl (pi_tup (pv 4)) (pg_name (i := 6) sc_law_worths.nd rfl (Or.inl rfl)) (pss_one (ps_if (pt_cmpR op_notN (pv 6) pe_non (nomark _)) (pss_one (ps_asg (pe_op op_sub (pe_ix ix_list (pv 5) (pe_ix ix_tup (pv 6) pe_int (fun _ _ => rfl)) (fun _ _ => rfl)) (pe_cal c_law_power hr (by rfl) (pa_cons (pe_op op_sub pe_int (pe_ix ix_tup (pv 6) pe_int (fun _ _ => rfl))) pa_nil))) (pg_sub (pv 5) (pe_ix ix_tup (pv 6) pe_int (fun _ _ => rfl)) set_list))) pss_nil)))
      (pss_one (ps_expr (pe_bm PySem.F.plainAttrs_list PySem.F.slot_list_append PySem.F.type_list_append mt_append (pv 1) (pa_cons (pe_cal c_law_lighter hr (by rfl) (pa_cons (pv 5) pa_nil)) pa_nil)))))))))
      (pss_cons (ps_for PassesOwn.never rfl (pi_range1 (by rfl) Z.range (pa_cons (pe_callB (id := "len") call_len_seq (by rfl) Z.len (by decide +kernel) (pa_cons (pv 1) pa_nil)) pa_nil)) (pg_name (i := 7) sc_law_worths.nd rfl (Or.inr rfl)) (pss_cons (ps_setLc (i := 8) (own := [("_law_at", 10)]) (g := gName 10) (tt := _) rfl sc_law_worths.nd rfl rfl (sw_true rfl rfl rfl (by decide +kernel)) (pi_range2 (by rfl) Z.range (pa_cons (pv 7) (pa_cons (pe_callB (id := "len") call_len_seq (by rfl) Z.len (by decide +kernel) (pa_cons (pv 1) pa_nil)) pa_nil))) (blkOk_by (N := ["_law_small", "_law_rows", "_law_state", "_law_end", "_law_steps", "_law_row", "_law_step", "_law_column", "_law_there", "_law_head", "_law_at", "_law_factor", "_law_found", "_law_k", "_law_worth"]) (sc := defScope s_law_worths) (by decide +kernel)) (fun _ _ _ _ _ => (pg_name (i := 10) sc_law_worths.nd rfl (Or.inl rfl))) (fun _ _ _ _ _ => (pts_one (pt_cmpR op_ne (pe_ix (r := rIxL K) ix_list (pe_ix (r := rIxL K) ix_list (pv 1) (pv 10) (fun _ _ => rfl)) (pv 7) (fun _ _ => rfl)) pe_int (nomark _)))) (fun _ _ _ _ _ => (pv 10)))
      (pss_cons (ps_if (pt_cmpR (op_eqD hr.units) (pv 8) (pe_lst pa_nil) (nomark _)) (pss_one (ps_ret pe_non)) pss_nil)
      (pss_cons (ps_asg (pe_tup (pa_cons (pe_ix ix_list (pv 1) (pe_ix ix_list (pv 8) pe_int (fun _ _ => rfl)) (fun _ _ => rfl)) (pa_cons (pe_ix ix_list (pv 1) (pv 7) (fun _ _ => rfl)) pa_nil))) (pg_tup (by rfl) (pgs_cons (pg_sub (pv 1) (pv 7) set_list) (pgs_cons (pg_sub (pv 1) (pe_ix ix_list (pv 8) pe_int (fun _ _ => rfl)) set_list) pgs_nil))))
      (pss_cons (ps_set (i := 9) sc_law_worths.nd rfl (Or.inr rfl) (pe_ix ix_list (pv 1) (pv 7) (fun _ _ => rfl)))
      (pss_one (ps_for PassesOwn.never rfl (pi_range1 (by rfl) Z.range (pa_cons (pe_callB (id := "len") call_len_seq (by rfl) Z.len (by decide +kernel) (pa_cons (pv 1) pa_nil)) pa_nil)) (pg_name (i := 10) sc_law_worths.nd rfl (Or.inr rfl)) (pss_cons (ps_set (i := 11) sc_law_worths.nd rfl (Or.inr rfl) (pe_ix ix_list (pe_ix ix_list (pv 1) (pv 10) (fun _ _ => rfl)) (pv 7) (fun _ _ => rfl)))
      (pss_one (ps_if (PW.pt (pw_and (pt_cmpR op_ne (pv 10) (pv 7) (nomark _)) (pw_and1 (pt_cmpR op_ne (pv 11) pe_int (nomark _))))) (pss_one (ps_asg (pe_cal c_law_lighter hr (by rfl) (pa_cons (pe_lc (own := [("_law_k", 13)]) (g := gName 13) (tt := tYes) rfl sc_law_worths.nd (pi_range1 (by rfl) Z.range (pa_cons (pe_callB (id := "len") call_len_seq (by rfl) Z.len (by decide +kernel) (pa_cons (pv 9) pa_nil)) pa_nil)) (blkOk_by (N := ["_law_small", "_law_rows", "_law_state", "_law_end", "_law_steps", "_law_row", "_law_step", "_law_column", "_law_there", "_law_head", "_law_at", "_law_factor", "_law_found", "_law_k", "_law_worth"]) (sc := defScope s_law_worths) (by decide +kernel)) (fun _ _ _ _ _ => (pg_name (i := 13) sc_law_worths.nd rfl (Or.inl rfl))) (fun _ _ _ _ _ => pts_nil) (fun _ _ _ _ _ => (pe_op op_sub (pe_op op_mulW (pe_ix (r := rIxL K) ix_list (pe_ix (r := rIxL K) ix_list (pv 1) (pv 10) (fun _ _ => rfl)) (pv 13) (fun _ _ => rfl)) (pe_ix (r := rIxL K) ix_list (pv 9) (pv 7) (fun _ _ => rfl))) (pe_op op_mulW (pv 11) (pe_ix (r := rIxL K) ix_list (pv 9) (pv 13) (fun _ _ => rfl)))))) pa_nil)) (pg_sub (pv 1) (pv 10) set_list))) pss_nil))))))))))
      (pss_cons (ps_set (i := 12) sc_law_worths.nd rfl (Or.inl rfl) (pe_callTy (T := "tuple") call_tuple_of (by rfl) Z.tuple (by decide +kernel) (pa_cons (pe_lc (own := [("_law_at", 10)]) (g := gName 10) (tt := tYes) rfl sc_law_worths.nd (pi_range1 (by rfl) Z.range (pa_cons (pe_callB (id := "len") call_len_seq (by rfl) Z.len (by decide +kernel) (pa_cons (pv 1) pa_nil)) pa_nil)) (blkOk_by (N := ["_law_small", "_law_rows", "_law_state", "_law_end", "_law_steps", "_law_row", "_law_step", "_law_column", "_law_there", "_law_head", "_law_at", "_law_factor", "_law_found", "_law_k", "_law_worth"]) (sc := defScope s_law_worths) (by decide +kernel)) (fun _ _ _ _ _ => (pg_name (i := 10) sc_law_worths.nd rfl (Or.inl rfl))) (fun _ _ _ _ _ => pts_nil) (fun _ _ _ _ _ => (pe_cal c_law_reduced hr (by rfl) (pa_cons (pe_ix (r := rIxL K) ix_list (pe_ix (r := rIxL K) ix_list (pv 1) (pv 10) (fun _ _ => rfl)) (pe_un un_neg pe_int) (fun _ _ => rfl)) (pa_cons (pe_ix (r := rIxL K) ix_list (pe_ix (r := rIxL K) ix_list (pv 1) (pv 10) (fun _ _ => rfl)) (pv 10) (fun _ _ => rfl)) pa_nil))))) pa_nil)))
      (pss_one (ps_ret (pe_ifExp (pt_val (pe_callB (id := "any") (cr_any rfl) (by rfl) Z.any (by decide +kernel) (pa_cons (pe_lc (own := [("_law_worth", 14)]) (g := gName 14) (tt := tYes) rfl sc_law_worths.nd (pi_tup (pv 12)) (blkOk_by (N := ["_law_small", "_law_rows", "_law_state", "_law_end", "_law_steps", "_law_row", "_law_step", "_law_column", "_law_there", "_law_head", "_law_at", "_law_factor", "_law_found", "_law_k", "_law_worth"]) (sc := defScope s_law_worths) (by decide +kernel)) (fun _ _ _ _ _ => (pg_name (i := 14) sc_law_worths.nd rfl (Or.inl rfl))) (fun _ _ _ _ _ => pts_nil) (fun _ _ _ _ _ => (pe_cmpR op_lt (pe_ix (r := rIxT K) ix_tup (pv 14) pe_int (fun _ _ => rfl)) pe_int (nomark _)))) pa_nil))) pe_non (pv 12)))))))), ?_⟩
  have n1 := ok.n1
  have n30 := ok.n30
  have z8 := ok.z8
  have eB64 := eqr_abs ok
  obtain ⟨p, pr, us, rfl, ep, epr, ar, _⟩ := At.mach hu
  have lu := ar.len
  -- rows = []
  refine ⟨(by show 0 ≤ sizeLine; decide), fun R nR => ?_⟩
  have yR := same_new nR (.lst [])
  refine ⟨_, rfl, p, _, 1, .ref pr, rfl, rfl, .of (yR _ _ ep), rfl, pr, us, rfl, .inr (.of (yR _ _ epr)), _, rfl, by omega, by omega, ?_⟩
  rw [lu, Int.toNat_natCast]
  refine for_range (lo := 0) (n := rows.length) (fun i σ' G => Same H G ∧ ∃ (cur : Nat → Nat → Int) (y2 y3 y4 y5 y6 : Option V), σ' = [some (.ref p), some (.ref R), y2, y3, y4, y5, y6, none, none, none, none, none, none, none, none] ∧ RowsA rows.length i R G cur ∧ ∀ t, t < i → Fit rows.length (eqr rows) cur t)
    ⟨yR, eqr rows, none, none, none, none, none, rfl, ⟨fun _ => R, upd_same, fun t ht => by omega⟩, fun t ht => by omega⟩ (fun i σ' G hi hh => ?_) (fun σ' G hh => ?_)
  · obtain ⟨sG, cur, y2, y3, y4, y5, y6, rfl, ⟨ads, eR, eA⟩, fit⟩ := hh
    obtain ⟨pu, ve, ps, vs, e, ss, b1, b2, b3, b4, b5, b6, b7, b8, b9⟩ := row_at (ar.same sG) ok hi
    have h1 : e = .non ∨ ∃ i, e = .int i ∧ 1 ≤ i ∧ i ≤ 60 := by
      obtain ⟨e', ss', er, c1, _⟩ := ok.row hi
      rw [b4] at er
      injection er with er; injection er with er; injection er with er _
      rw [er]; exact c1
    have epG := sG _ _ ep
    have eprG := sG _ _ epr
    have lvs := b8.len
    refine ⟨_, rfl, p, _, 1, .ref pr, rfl, rfl, .of epG, rfl, _, rfl, pr, us, _, .ref pu, rfl, rfl, .of eprG, (by rw [Int.zero_add]; exact atI_nat b1), pu, _, rfl, .of b2, rfl, _, _, rfl, _, _, rfl, rfl, ?_⟩
    refine ⟨(by show 1 ≤ sizeLine; decide), fun O nO => ?_⟩
    have yO := same_new nO (.lst [V.int 0])
    refine ⟨_, rfl, p, _, 1, .ref pr, rfl, rfl, .of (yO _ _ epG), rfl, pr, us, rfl, .inr (.of (yO _ _ eprG)), O, _, _, rfl, rfl, upd_same, by omega, by omega, by rw [sizeLine_eq]; show 1 * _ ≤ _; omega, fun F nF => ?_⟩
    have yF := same_new nF (.lst ((List.replicate ((us.length : Nat) : Int).toNat [V.int 0]).flatten))
    have eF : (upd (upd G O (.lst [V.int 0])) F (.lst ((List.replicate ((us.length : Nat) : Int).toNat [V.int 0]).flatten))) F = some (.lst (rowV (fun _ => 0) rows.length)) := by
      rw [upd_same]
      congr 2
      have := repV_single ((us.length : Nat) : Int) (V.int 0)
      unfold repV at this
      rw [this]
      refine rowV_ext (by rw [List.length_replicate]; omega) fun j hj => ?_
      rw [List.getElem?_replicate, if_pos (by omega)]
    have sF : Same G (upd (upd G O (.lst [V.int 0])) F (.lst ((List.replicate ((us.length : Nat) : Int).toNat [V.int 0]).flatten))) := yO.trans yF
    generalize upd (upd G O (.lst [V.int 0])) F (.lst ((List.replicate ((us.length : Nat) : Int).toNat [V.int 0]).flatten)) = G1 at *
    have hEnd : shE (endOf ((rows[i]?).getD .non)) = shE e := by rw [b4]; rfl
    have hSs : stepsOf ((rows[i]?).getD .non) = ss := by rw [b4]; rfl
    refine ⟨_, rfl, rfl, _, rfl, iteB (fun ec => ?ga) (fun ec => ?gb)⟩
    case' ga =>
      have en : ve = .non := of_decide_eq_true ec
      have eE : (0 : Int) = shE e := by
        rcases b6 with ⟨rfl, _⟩ | ⟨i0, rfl, rfl⟩
        · rfl
        · cases en
      refine ⟨(by show 1 ≤ sizeLine; decide), fun B2 nB2 => ?_⟩
      rw [show (HO.lst [V.int 0]) = HO.lst [V.int (shE e)] by rw [← eE]]
      clear eE
      generalize shE e = eN at *
    case' gb =>
      obtain ⟨i0, rfl, rfl⟩ : ∃ i, e = .int i ∧ ve = .int i := by
        rcases b6 with ⟨rfl, rfl⟩ | h
        · exact absurd ec (by decide)
        · exact h
      have hi0 : 1 ≤ i0 ∧ i0 ≤ 60 := by
        rcases h1 with h | ⟨i, h, h2, h3⟩
        · cases h
        · cases h; exact ⟨h2, h3⟩
      refine ⟨_, rfl, _, _, rfl, rfl, (60 - i0).toNat, (by rw [Int.toNat_of_nonneg (by omega)]; rfl), by omega, (by show 1 ≤ sizeLine; decide), fun B2 nB2 => ?_⟩
      rw [show (2 : Int) ^ (60 - i0).toNat = shE (.int i0) from rfl]
      generalize shE (.int i0) = eN at *
    all_goals
      have y2 := same_new nB2 (.lst [V.int eN])
      refine ⟨F, B2, _, _, rfl, rfl, y2 _ _ eF, upd_same, by rw [rowV_len, sizeLine_eq]; show rows.length + 1 ≤ _; omega, fun B nB => ?_⟩
      have yB := same_new nB (.lst (rowV (fun _ => 0) rows.length ++ [V.int eN]))
      have eB : (upd (upd G1 B2 (.lst [V.int eN])) B (.lst (rowV (fun _ => 0) rows.length ++ [V.int eN]))) B = some (.lst (rowV (fun j => if j = rows.length then eN else 0) (rows.length + 1))) := by
        rw [upd_same]
        congr 2
        refine rowV_ext (by rw [List.length_append, rowV_len]; rfl) fun j hj => ?_
        by_cases e1 : j = rows.length
        · subst e1
          rw [List.getElem?_append_right (by rw [rowV_len]; exact Nat.le_refl _), rowV_len, Nat.sub_self, if_pos rfl]; rfl
        · rw [List.getElem?_append_left (by rw [rowV_len]; omega), rowV_get (by omega), if_neg e1]
      have s2 : Same G (upd (upd G1 B2 (.lst [V.int eN])) B (.lst (rowV (fun _ => 0) rows.length ++ [V.int eN]))) := sF.trans (y2.trans yB)
      have nBG : G B = none := Same.free (sF.trans y2) nB
      generalize upd (upd G1 B2 (.lst [V.int eN])) B (.lst (rowV (fun _ => 0) rows.length ++ [V.int eN])) = G2 at *
      refine ⟨_, _, rfl, rfl, ⟨by decide, by decide, by decide⟩, _, rfl, _, rfl, B, _, _, i, rfl, rfl, eB, (by rw [Int.zero_add]; exact ixT (by rw [rowV_len]; omega)), ?_⟩
      have eB3 : (upd G2 B (.lst ((rowV (fun j => if j = rows.length then eN else 0) (rows.length + 1)).set i (.int (2 ^ (60 : Int).toNat))))) B = some (.lst (rowV (fun j => if j = rows.length then eN else (if j = i then 2 ^ 60 else 0) - shS [] j) (rows.length + 1))) := by
        rw [upd_same]
        congr 2
        refine rowV_ext (by rw [List.length_set, rowV_len]) fun j hj => ?_
        by_cases e1 : j = i
        · subst e1
          rw [List.getElem?_set_self (by rw [rowV_len]; omega), if_neg (by omega), if_pos rfl]; rfl
        · rw [List.getElem?_set_ne (fun h => e1 h.symm), rowV_get hj, if_neg e1]; rfl
      have s3 := Same.upd_new s2 nBG (.lst ((rowV (fun j => if j = rows.length then eN else 0) (rows.length + 1)).set i (.int (2 ^ (60 : Int).toNat))))
      generalize upd G2 B (.lst ((rowV (fun j => if j = rows.length then eN else 0) (rows.length + 1)).set i (.int (2 ^ (60 : Int).toNat)))) = G3 at *
      refine ⟨_, rfl, ps, rfl, ⟨_, .of (s3 _ _ b3)⟩, ?_⟩
      refine for_tup (xs := vs) (fun q' σ2 G4 => Same G G4 ∧ ∃ y3' y6 : Option V, σ2 = [some (.ref p), some (.ref R), some (.int (0 + (i : Nat))), y3', some (.ref ps), some (.ref B), y6, none, none, none, none, none, none, none, none] ∧ G4 B = some (.lst (rowV (fun j => if j = rows.length then eN else (if j = i then 2 ^ 60 else 0) - shS (ss.take q') j) (rows.length + 1)))) ⟨s3, _, _, rfl, eB3⟩ (fun q' σ2 G4 _ h2 => .of (h2.1 _ _ b3)) (fun q' x σ2 G4 ex h2 => ?_) (fun σ2 G4 h2 => ?_)
      · obtain ⟨s4, y3', y6, rfl, eB4⟩ := h2
        have tk : ∀ {st : Th}, ss[q']? = some st → ss.take (q' + 1) = ss.take q' ++ [st] := fun h => by rw [List.take_add_one, h]; rfl
        rcases st_get (b8.same s4) b9 ex with ⟨f1, rfl⟩ | ⟨q2, m, s2', f1, rfl, f2, _, m0, m1, s0, s1⟩
        · refine ⟨_, rfl, rfl, _, rfl, iteF ⟨s4, _, _, rfl, ?_⟩⟩
          rw [eB4, tk f1]
          congr 2
          exact rowV_congr fun j _ => by rw [shS_snoc, show shT j .non = 0 from rfl, Int.add_zero]
        · obtain ⟨j0, rfl⟩ : ∃ j0 : Nat, s2' = (j0 : Int) := ⟨s2'.toNat, by omega⟩
          refine ⟨_, rfl, rfl, _, rfl, iteT ?_⟩
          refine ⟨_, rfl, _, rfl, q2, _, 1, .int (j0 : Nat), rfl, rfl, .of f2, rfl, B, _, _, _, rfl, rfl, .inl (.of eB4), atI_nat (rowV_get (show j0 < rows.length + 1 by omega)), _, rfl, q2, _, 0, .int m, rfl, rfl, .of f2, rfl, _, _, rfl, rfl, (60 - m).toNat, (by rw [Int.toNat_of_nonneg (by omega)]; rfl), by omega, ?_⟩
          refine ⟨_, _, rfl, rfl, _, rfl, _, rfl, q2, _, 1, .int (j0 : Nat), rfl, rfl, .of f2, rfl, B, _, _, j0, rfl, rfl, eB4, ixT (by rw [rowV_len]; omega), Same.upd_new s4 nBG _, _, _, rfl, ?_⟩
          rw [upd_same, tk f1]
          congr 2
          refine rowV_ext (by rw [List.length_set, rowV_len]) fun j hj => ?_
          have hT : shT j (.tup [.int m, .int (j0 : Nat)]) = if (j0 : Int) = (j : Int) then (2 : Int) ^ (60 - m).toNat else 0 := rfl
          by_cases e1 : j = j0
          · subst e1
            have nj : ¬ j = rows.length := by omega
            rw [List.getElem?_set_self (by rw [rowV_len]; omega)]
            show some (V.int ((if j = rows.length then eN else (if j = i then 2 ^ 60 else 0) - shS (ss.take q') j) - 2 ^ (60 - m).toNat)) = _
            rw [if_neg nj, if_neg nj, shS_snoc, hT, if_pos rfl]
            congr 2
            omega
          · rw [List.getElem?_set_ne (fun h => e1 h.symm), rowV_get hj, shS_snoc, hT, if_neg (show ¬ (j0 : Int) = (j : Int) by omega), Int.add_zero]
      · obtain ⟨s4, y3', y6, rfl, eB4⟩ := h2
        rw [lvs, List.take_length] at eB4
        have eqf : ∀ j, j ≤ rows.length → eqr rows i j = (if j = rows.length then eN else (if j = i then 2 ^ 60 else 0) - shS ss j) := fun j hj => by
          unfold eqr
          rw [hEnd, hSs]
          by_cases e1 : j = rows.length
          · rw [if_neg (by omega), if_pos e1, if_pos e1]
          · rw [if_pos (by omega), if_neg e1]
        have eB5 : G4 B = some (.lst (rowV (eqr rows i) (rows.length + 1))) := by
          rw [eB4]; congr 2
          exact rowV_congr fun j hj => (eqf j (by omega)).symm
        have nBR : B ≠ R := fun h => by rw [h, eR] at nBG; cases nBG
        have eR4 := s4 _ _ eR
        refine ⟨_, rfl, .inl ⟨rfl, _, .inl (.inl eR4)⟩, ?_⟩
        have sm : ∀ j, j < rows.length + 1 → (eqr rows i j).natAbs < 2 ^ 8900 := fun j _ => Nat.lt_of_le_of_lt (eB64 i j) (Nat.pow_lt_pow_right (by decide) (by decide))
        have fin : ∀ (N : Addr) (G5 : Hp) (g : Nat → Int), Same G4 G5 → N ≠ R → G5 N = some (.lst (rowV g (rows.length + 1))) → (∃ k : Int, k ≠ 0 ∧ ∀ j, j ≤ rows.length → eqr rows i j = k * g j) → Prim rows.length g →
            G5 R = some (.lst (refs ads i)) ∧ (refs ads i).length < sizeLine ∧ Same H (upd G5 R (.lst (refs ads i ++ [.ref N]))) ∧ RowsA rows.length (i + 1) R (upd G5 R (.lst (refs ads i ++ [.ref N]))) (fun t => if t = i then g else cur t) ∧ ∀ t, t < i + 1 → Fit rows.length (eqr rows) (fun t => if t = i then g else cur t) t := fun N G5 g s5 nN eN5 hk hp5 => by
          refine ⟨s5 _ _ eR4, by rw [refs_len, sizeLine_eq]; omega, Same.upd_new (sG.trans (s4.trans s5)) nR _, ⟨fun t => if t = i then N else ads t, by rw [upd_same, refs_succ], fun t ht => ?_⟩, fun t ht => ?_⟩
          · dsimp only
            by_cases e1 : t = i
            · rw [if_pos e1, if_pos e1]
              exact ⟨nN, by rw [upd_ne nN]; exact eN5⟩
            · rw [if_neg e1, if_neg e1]
              obtain ⟨a1, a2⟩ := eA t (by omega)
              exact ⟨a1, by rw [upd_ne a1]; exact (s4.trans s5) _ _ a2⟩
          · unfold Fit
            dsimp only
            by_cases e1 : t = i
            · subst e1
              rw [if_pos rfl]
              exact ⟨hk, hp5⟩
            · rw [if_neg e1]
              exact fit t (by omega)
        refine ⟨_, rfl, B, eqr rows i, rows.length + 1, rfl, eB5, by omega, sm, fun g0 G5 s5 => ?_, fun g0 N G5 s5 nN eN5 => ?_⟩
        · obtain ⟨f1, f2, f3, f4, f5⟩ := fin B G5 (eqr rows i) s5 nBR (s5 _ _ eB5) ⟨1, by decide, fun j _ => by rw [Int.one_mul]⟩ (.inl fun j hj => zero_light g0 hj)
          exact ⟨R, _, _, rfl, rfl, f1, f2, f3, _, _, _, _, _, _, rfl, f4, f5⟩
        · obtain ⟨f1, f2, f3, f4, f5⟩ := fin N G5 _ s5 (fun h => by rw [h, eR4] at nN; cases nN) eN5 ⟨((gcN (eqr rows i) (rows.length + 1) : Nat) : Int), by omega, fun j hj => (Int.mul_ediv_cancel' (gcN_dvd (by omega))).symm⟩ (prim_light g0)
          exact ⟨R, _, _, rfl, rfl, f1, f2, f3, _, _, _, _, _, _, rfl, f4, f5⟩
  · obtain ⟨sG, cur0, y2, y3, y4, y5, y6, rfl, ra0, fit⟩ := hh
    obtain ⟨kf, hkf⟩ : ∃ kf : Nat → Int, ∀ t, t < rows.length → kf t ≠ 0 ∧ ∀ j, j ≤ rows.length → eqr rows t j = kf t * cur0 t j := by
      refine ⟨fun t => if ht : t < rows.length then Classical.choose (fit t ht).1 else 1, fun t ht => ?_⟩
      dsimp only
      rw [dif_pos ht]
      exact Classical.choose_spec (fit t ht).1
    have own0 := (Own.start rows.length (eqr rows)).light kf (fun t ht => (hkf t ht).1) (fun t ht => (hkf t ht).2) (by omega)
    have like0 := (Like.start (n := rows.length) (eqr rows)).light kf (fun t ht => (hkf t ht).1) (fun t ht => (hkf t ht).2)
    have eR0 : ∃ ads, G R = some (.lst (refs ads rows.length)) := by obtain ⟨ads, e, _⟩ := ra0; exact ⟨ads, e⟩
    obtain ⟨ads0, eR0⟩ := eR0
    refine ⟨_, rfl, R, _, rfl, .inl (.of eR0), ?_⟩
    rw [refs_len]
    refine ⟨_, rfl, by omega, by omega, ?_⟩
    rw [Int.toNat_natCast]
    refine for_range (lo := 0) (n := rows.length) (fun c σ' G => Same H G ∧ ∃ (cur r' : Nat → Nat → Int) (y2 y3 y4 y5 y6 y7 y8 y9 y10 y11 y13 : Option V), σ' = [some (.ref p), some (.ref R), y2, y3, y4, y5, y6, y7, y8, y9, y10, y11, none, y13, none] ∧ RowsA rows.length rows.length R G cur ∧ Own rows.length c (eqr rows) cur ∧ Like rows.length c r' cur ∧ (∀ i j, (r' i j).natAbs ≤ 2 ^ 64) ∧ ∀ i, i < rows.length → Prim rows.length (cur i))
      ⟨sG, cur0, eqr rows, _, _, _, _, _, _, _, _, _, _, _, rfl, ra0, own0, like0, eB64, fun i hi => (fit i hi).2⟩ (fun c σ' G hc hh => ?_) (fun σ' G hh => ?_)
    · obtain ⟨sG, cur, r', y2, y3, y4, y5, y6, y7, y8, y9, y10, y11, y13, rfl, ⟨ads, eR, eA⟩, own, like, rB, pm⟩ := hh
      have sm : ∀ i j, i < rows.length → j ≤ rows.length → (cur i j).natAbs < 2 ^ 4000 := fun i j hi hj => Nat.lt_of_le_of_lt (like.le hi hj (pm i hi)) (tk_small rB (by omega) j)
      refine ⟨_, rfl, _, rfl, R, _, rfl, .inl (.of eR), ?_⟩
      rw [refs_len]
      have c0 : (0 : Int) + (c : Int) = (c : Int) := by omega
      rw [c0]
      refine ⟨_, _, rfl, ⟨by omega, by omega, by omega, by omega⟩, ?_⟩
      rw [show ((rows.length : Nat) : Int) - (c : Int) = ((rows.length - c : Nat) : Int) by omega, Int.toNat_natCast]
      refine lc_valW (f := fun j => .int ((c + j : Nat) : Int)) (p := fun j => decide (cur (c + j) c ≠ 0)) (walk_range (lo := (c : Int)) (n := rows.length - c)) (fun _ _ _ _ h => h) (fun _ _ => trivial) (by omega) (fun _ => rfl) (fun j x G2 hj ex s2 Rr hR => ?_) (fun j x G2 hj ex hp s2 Rr hR => ?_) (fun D G2 s2 nD eD => ?_)
      · cases (show x = _ from ex)
        refine ⟨_, rfl, _, rfl, R, _, _, .ref (ads (c + j)), rfl, rfl, .inl (.of (s2 _ _ eR)), (by rw [show (c : Int) + (j : Int) = ((c + j : Nat) : Int) by omega]; exact atI_nat (refs_get (by omega))), _, rfl, ads (c + j), _, _, .int (cur (c + j) c), rfl, rfl, .inl (.of (s2 _ _ (eA _ (by omega)).2)), atI_nat (rowV_get (by omega)), rfl, ?_⟩
        refine ⟨_, rfl, ?_⟩
        rw [neV]
        exact hR G2 (Same.refl _)
      · cases (show x = _ from ex)
        refine ⟨_, rfl, ?_⟩
        show Rr (V.int ((c : Int) + (j : Int))) G2
        rw [show (c : Int) + (j : Int) = ((c + j : Nat) : Int) by omega]
        exact hR G2 (Same.refl _)
      have eD : G2 D = some (.lst (((((List.range (rows.length - c)).filter fun j => decide (cur (c + j) c ≠ 0)).map fun j => c + j)).map nV)) := by rw [eD, List.map_map]; rfl
      have thM : ∀ a, a ∈ (((List.range (rows.length - c)).filter fun j => decide (cur (c + j) c ≠ 0)).map fun j => c + j) ↔ c ≤ a ∧ a < rows.length ∧ cur a c ≠ 0 := fun a => by
        rw [List.mem_map]
        constructor
        · rintro ⟨j, m, rfl⟩
          rw [List.mem_filter, List.mem_range, decide_eq_true_eq] at m
          exact ⟨by omega, by omega, m.2⟩
        · rintro ⟨h1, h2, h3⟩
          refine ⟨a - c, List.mem_filter.mpr ⟨List.mem_range.mpr (by omega), ?_⟩, by omega⟩
          rw [decide_eq_true_eq, show c + (a - c) = a by omega]
          exact h3
      have thL : (((List.range (rows.length - c)).filter fun j => decide (cur (c + j) c ≠ 0)).map fun j => c + j).length ≤ 30 := by
        rw [List.length_map]
        have := List.length_filter_le (fun j => decide (cur (c + j) c ≠ 0)) (List.range (rows.length - c))
        rw [List.length_range] at this
        omega
      generalize (((List.range (rows.length - c)).filter fun j => decide (cur (c + j) c ≠ 0)).map fun j => c + j) = th at *
      -- there == []
      refine ⟨_, rfl, (by show 0 ≤ sizeLine; decide), fun E5 n5 => ?_⟩
      have yE5 := same_new n5 (.lst [])
      have aT : At (fun _ => False) (upd G2 E5 (.lst [])) (.lst (th.map fun i => Th.int (i : Nat))) (.ref D) := ⟨D, _, rfl, fun f => f, yE5 _ _ eD, AtAll.nats _⟩
      have aE : At (fun _ => False) (upd G2 E5 (.lst [])) (.lst []) (.ref E5) := ⟨E5, [], rfl, fun f => f, upd_same, .nil⟩
      have lyT : (py (.lst (th.map fun i => Th.int (i : Nat)))).canLay0 = true := lay_lst fun x m => by
        obtain ⟨i, _, rfl⟩ := List.mem_map.mp m
        exact lay_int _
      have lyE : (py (.lst [])).canLay0 = true := lay_lst fun x m => nomatch m
      refine ⟨_, _, At.dp _ _ aT lyT, At.dp _ _ aE lyE, shaped_th lyT (dp_nats _), shaped_th lyE (by decide), _, rfl, ?_⟩
      rw [eqv_lnil]
      cases hth : th with
      | nil =>
        refine iteT (q0 (fun hp => own.none hc (fun i h1 h2 => ?_) hp) _ (sG.trans (s2.trans yE5)))
        refine Classical.byContradiction fun h3 => ?_
        have := (thM i).mpr ⟨h1, h2, h3⟩
        rw [hth] at this
        cases this
      | cons a rest =>
        obtain ⟨hca, han, ha0⟩ := (thM a).mp (by rw [hth]; exact List.mem_cons_self)
        have eD5 := yE5 _ _ eD
        rw [hth] at eD5
        have s3 := s2.trans yE5
        clear aT aE lyT lyE eD
        generalize upd G2 E5 (.lst []) = G3 at *
        have eR3 := s3 _ _ eR
        have eA3 : ∀ t, t < rows.length → ads t ≠ R ∧ G3 (ads t) = some (.lst (rowV (cur t) (rows.length + 1))) := fun t ht => ⟨(eA t ht).1, s3 _ _ (eA t ht).2⟩
        refine iteF ?_
        refine ⟨_, rfl, _, rfl, D, _, 0, _, rfl, rfl, .inl (.of eD5), atI_nat (j := 0) rfl, R, _, _, _, rfl, rfl, .inl (.of eR3), atI_nat (refs_get han), _, rfl, _, rfl, R, _, _, _, rfl, rfl, .inl (.of eR3), atI_nat (refs_get hc), (by show 2 ≤ sizeLine; decide), fun T nT => ?_⟩
        have yT := same_new nT (.tup [V.ref (ads a), V.ref (ads c)])
        refine ⟨T, _, rfl, .of upd_same, rfl, _, _, rfl, _, rfl, _, rfl, R, _, _, c, rfl, rfl, yT _ _ eR3, ixT (by rw [refs_len]; omega), ?_⟩
        have nDR : D ≠ R := fun h => by rw [h, eR] at nD; cases nD
        have nTR : T ≠ R := fun h => by rw [h, eR3] at nT; cases nT
        refine ⟨_, _, rfl, _, rfl, _, rfl, D, _, 0, _, rfl, rfl, .inl (.of (by rw [upd_ne nDR]; exact yT _ _ eD5)), atI_nat (j := 0) rfl, R, _, _, a, rfl, rfl, upd_same, ixT (by rw [List.length_set, refs_len]; omega), ?_⟩
        have eSw : ((refs ads rows.length).set c (.ref (ads a))).set a (.ref (ads c)) = refs (fun i => ads (exch c a i)) rows.length := refs_swap hc han
        rw [eSw]
        have sS : Same H (upd (upd (upd G3 T (.tup [V.ref (ads a), V.ref (ads c)])) R (.lst ((refs ads rows.length).set c (.ref (ads a))))) R (.lst (refs (fun i => ads (exch c a i)) rows.length))) := Same.upd_new (Same.upd_new (sG.trans (s3.trans yT)) nR _) nR _
        have eRS : (upd (upd (upd G3 T (.tup [V.ref (ads a), V.ref (ads c)])) R (.lst ((refs ads rows.length).set c (.ref (ads a))))) R (.lst (refs (fun i => ads (exch c a i)) rows.length))) R = some (.lst (refs (fun i => ads (exch c a i)) rows.length)) := upd_same
        have eAS : ∀ t, t < rows.length → ads t ≠ R ∧ (upd (upd (upd G3 T (.tup [V.ref (ads a), V.ref (ads c)])) R (.lst ((refs ads rows.length).set c (.ref (ads a))))) R (.lst (refs (fun i => ads (exch c a i)) rows.length))) (ads t) = some (.lst (rowV (cur t) (rows.length + 1))) := fun t ht => ⟨(eA3 t ht).1, by rw [upd_ne (eA3 t ht).1, upd_ne (eA3 t ht).1]; exact yT _ _ (eA3 t ht).2⟩
        generalize upd (upd (upd G3 T (.tup [V.ref (ads a), V.ref (ads c)])) R (.lst ((refs ads rows.length).set c (.ref (ads a))))) R (.lst (refs (fun i => ads (exch c a i)) rows.length)) = G4 at *
        have xl : ∀ i, i < rows.length → exch c a i < rows.length := fun i hi => by unfold exch; (repeat' split) <;> omega
        have xc : exch c a c = a := by unfold exch; rw [if_pos rfl]
        have ownS : Own rows.length c (eqr rows) fun i => cur (exch c a i) := own.swap hc han (Nat.le_refl _) hca fun i hi => rfl
        have likeS : Like rows.length c (fun i => r' (exch c a i)) fun i => cur (exch c a i) := like.swap hc han hca fun i hi => rfl
        have pmS : ∀ i, i < rows.length → Prim rows.length (cur (exch c a i)) := fun i hi => pm _ (xl i hi)
        have smS : ∀ i j, i < rows.length → j ≤ rows.length → (cur (exch c a i) j).natAbs < 2 ^ 4000 := fun i j hi hj => sm _ j (xl i hi) hj
        have eAS2 : ∀ t, t < rows.length → ads (exch c a t) ≠ R ∧ G4 (ads (exch c a t)) = some (.lst (rowV (cur (exch c a t)) (rows.length + 1))) := fun t ht => eAS _ (xl t ht)
        have hd0 : cur (exch c a c) c ≠ 0 := by rw [xc]; exact ha0
        generalize hCS : (fun i => cur (exch c a i)) = curS at *
        have cS : ∀ i, cur (exch c a i) = curS i := fun i => congrFun hCS i
        generalize hAS : (fun i => ads (exch c a i)) = adsS at *
        have aS : ∀ i, ads (exch c a i) = adsS i := fun i => congrFun hAS i
        simp only [cS] at pmS smS eAS2 hd0
        simp only [aS] at eAS2
        clear eA eA3 eAS own like pm sm eR eR3 yT eSw
        refine ⟨rfl, _, rfl, _, rfl, R, _, _, _, rfl, rfl, .inl (.of eRS), atI_nat (refs_get hc), ?_⟩
        refine ⟨_, rfl, R, _, rfl, .inl (.of eRS), ?_⟩
        rw [refs_len]
        refine ⟨_, rfl, by omega, by omega, ?_⟩
        rw [Int.toNat_natCast]
        refine for_range (lo := 0) (n := rows.length) (fun t σ' G => Same H G ∧ ∃ (ads1 : Nat → Addr) (cur1 : Nat → Nat → Int) (y10 y11 y13 : Option V), σ' = [some (.ref p), some (.ref R), y2, y3, y4, y5, y6, some (.int (c : Nat)), some (.ref D), some (.ref (adsS c)), y10, y11, none, y13, none] ∧ G R = some (.lst (refs ads1 rows.length)) ∧ (∀ i, i < rows.length → ads1 i ≠ R ∧ G (ads1 i) = some (.lst (rowV (cur1 i) (rows.length + 1)))) ∧ ads1 c = adsS c ∧
          (∀ i, i < rows.length → (i = c ∨ t ≤ i) → cur1 i = curS i) ∧ (∀ i, i < t → i ≠ c → (curS i c = 0 ∧ cur1 i = curS i) ∨ ∃ k : Int, k ≠ 0 ∧ ∀ j, j ≤ rows.length → curS i j * curS c c - curS i c * curS c j = k * cur1 i j) ∧ Own rows.length c (eqr rows) cur1 ∧ ∀ i, i < rows.length → Prim rows.length (cur1 i))
          ⟨sS, adsS, curS, _, _, _, rfl, eRS, eAS2, rfl, fun i _ _ => rfl, fun i hi => by omega, ownS, pmS⟩ (fun t σ' G5 ht hh => ?_) (fun σ' G5 hh => ?_)
        · obtain ⟨sG5, ads1, cur1, y10', y11', y13', rfl, eR5, eA5, ec5, same5, done5, own5, pm5⟩ := hh
          rw [show (0 : Int) + (t : Int) = (t : Int) by omega]
          have e_t : cur1 t = curS t := same5 t ht (.inr (Nat.le_refl t))
          have eH := (eA5 c hc).2
          rw [ec5, same5 c hc (.inl rfl)] at eH
          have eT := (eA5 t ht).2
          rw [e_t] at eT
          refine ⟨_, rfl, _, rfl, R, _, _, _, rfl, rfl, .inl (.of eR5), atI_nat (refs_get ht), _, rfl, ads1 t, _, _, _, rfl, rfl, .inl (.of eT), atI_nat (rowV_get (show c < rows.length + 1 by omega)), ?_⟩
          have keepT : (t = c ∨ curS t c = 0) → (∀ i, i < rows.length → (i = c ∨ t + 1 ≤ i) → cur1 i = curS i) ∧ (∀ i, i < t + 1 → i ≠ c → (curS i c = 0 ∧ cur1 i = curS i) ∨ ∃ k : Int, k ≠ 0 ∧ ∀ j, j ≤ rows.length → curS i j * curS c c - curS i c * curS c j = k * cur1 i j) := fun hk => by
            refine ⟨fun i hi h => same5 i hi (h.imp_right fun h => by omega), fun i hi ne => ?_⟩
            by_cases ei : i = t
            · subst ei
              exact .inl ⟨hk.resolve_left ne, e_t⟩
            · exact done5 i (by omega) ne
          refine ⟨_, rfl, _, rfl, rfl, _, rfl, iteB (fun e1 => ?_) (fun e1 => ?_)⟩
          · have tc : t ≠ c := fun h => by
              have := of_decide_eq_false (not_true e1)
              exact this (by rw [h])
            refine ⟨_, rfl, rfl, _, rfl, iteB (fun e2 => ?_) (fun e2 => ?_)⟩
            · have f0 : curS t c ≠ 0 := fun h => by
                have := of_decide_eq_false (not_true e2)
                exact this (by rw [h])
              have rawB : ∀ j, j < rows.length + 1 → (curS t j * curS c c - curS t c * curS c j).natAbs < 2 ^ 8900 := fun j hj => by
                have b1 := wide_lt (smS t j ht (by omega)) (smS c c hc (by omega))
                have b2 := wide_lt (smS t c ht (by omega)) (smS c j hc (by omega))
                have : (2 : Nat) ^ (4000 + 4000) + 2 ^ (4000 + 4000) ≤ 2 ^ 8900 := by
                  rw [← Nat.two_mul, ← Nat.pow_succ']
                  exact Nat.pow_le_pow_right (by decide) (by decide)
                omega
              have cm : ∀ i j i' j', i < rows.length → j ≤ rows.length → i' < rows.length → j' ≤ rows.length → CMulW (curS i j) (curS i' j') := fun i j i' j' h1 h2 h3 h4 => wide_mul (smS i j h1 h2) (smS i' j' h3 h4) (by decide) (by decide) (by decide)
              refine ⟨_, rfl, adsS c, _, rfl, .inl (.of eH), ?_⟩
              rw [rowV_len]
              refine ⟨_, rfl, by omega, by omega, ?_⟩
              rw [Int.toNat_natCast]
              refine lc_valW (f := fun j => .int (curS t j * curS c c - curS t c * curS c j)) (p := fun _ => true) (walk_range (lo := 0) (n := rows.length + 1)) (fun _ _ _ _ h => h) (fun _ _ => trivial) (by omega) (fun _ => rfl) (fun j x G hj ex sG R hR => hR G (Same.refl G)) (fun j x G hj ex hp sG Rr hR => ?_) (fun B G6 s6 nB eB => ?_)
              · cases (show x = _ from ex)
                have aj : ∀ f : Nat → Int, atI (rowV f (rows.length + 1)) (0 + (j : Int)) = some (.int (f j)) := fun f => by rw [Int.zero_add]; exact atI_nat (rowV_get hj)
                exact ⟨_, rfl, _, rfl, R, _, _, _, rfl, rfl, .inl (.of (sG _ _ eR5)), atI_nat (refs_get ht), _, rfl, ads1 t, _, _, _, rfl, rfl, .inl (.of (sG _ _ eT)), aj _, _, rfl, _, rfl, adsS c, _, _, _, rfl, rfl, .inl (.of (sG _ _ eH)), atI_nat (rowV_get (by omega)), _, _, rfl, rfl, cm _ _ _ _ ht (by omega) hc (by omega), _, rfl, _, rfl, _, rfl, adsS c, _, _, _, rfl, rfl, .inl (.of (sG _ _ eH)), aj _, _, _, rfl, rfl, cm _ _ _ _ ht (by omega) hc (by omega), _, _, rfl, rfl, hR G (Same.refl G)⟩
              rw [filt_all] at eB
              have eB' : G6 B = some (.lst (rowV (fun j => curS t j * curS c c - curS t c * curS c j) (rows.length + 1))) := eB
              have nBR : B ≠ R := fun h => by rw [h, eR5] at nB; cases nB
              have fin : ∀ (N : Addr) (G7 : Hp) (g : Nat → Int), Same G5 G7 → N ≠ R → G7 N = some (.lst (rowV g (rows.length + 1))) → (∃ k : Int, k ≠ 0 ∧ ∀ j, j ≤ rows.length → curS t j * curS c c - curS t c * curS c j = k * g j) → Prim rows.length g →
                  G7 R = some (.lst (refs ads1 rows.length)) ∧ Same H (upd G7 R (.lst ((refs ads1 rows.length).set t (.ref N)))) ∧ (upd G7 R (.lst ((refs ads1 rows.length).set t (.ref N)))) R = some (.lst (refs (fun i => if i = t then N else ads1 i) rows.length)) ∧
                  (∀ i, i < rows.length → (fun i => if i = t then N else ads1 i) i ≠ R ∧ (upd G7 R (.lst ((refs ads1 rows.length).set t (.ref N)))) ((fun i => if i = t then N else ads1 i) i) = some (.lst (rowV ((fun i => if i = t then g else cur1 i) i) (rows.length + 1)))) ∧ (fun i => if i = t then N else ads1 i) c = adsS c ∧
                  (∀ i, i < rows.length → (i = c ∨ t + 1 ≤ i) → (fun i => if i = t then g else cur1 i) i = curS i) ∧ (∀ i, i < t + 1 → i ≠ c → (curS i c = 0 ∧ (fun i => if i = t then g else cur1 i) i = curS i) ∨ ∃ k : Int, k ≠ 0 ∧ ∀ j, j ≤ rows.length → curS i j * curS c c - curS i c * curS c j = k * (fun i => if i = t then g else cur1 i) i j) ∧ Own rows.length c (eqr rows) (fun i => if i = t then g else cur1 i) ∧ ∀ i, i < rows.length → Prim rows.length ((fun i => if i = t then g else cur1 i) i) := fun N G7 g s7 nN eN ⟨k, hk, hkg⟩ hp7 => by
                refine ⟨s7 _ _ eR5, Same.upd_new (sG5.trans s7) nR _, by rw [upd_same, refs_set ht], fun i hi => ?_, ?_, fun i hi h => ?_, fun i hi ne => ?_, ?_, fun i hi => ?_⟩
                · dsimp only
                  by_cases ei : i = t
                  · rw [if_pos ei, if_pos ei]
                    exact ⟨nN, by rw [upd_ne nN]; exact eN⟩
                  · rw [if_neg ei, if_neg ei]
                    exact ⟨(eA5 i hi).1, by rw [upd_ne (eA5 i hi).1]; exact s7 _ _ (eA5 i hi).2⟩
                · dsimp only
                  rw [if_neg (fun h => tc h.symm)]; exact ec5
                · dsimp only
                  rw [if_neg (by omega)]
                  exact same5 i hi (h.imp_right fun h => by omega)
                · dsimp only
                  by_cases ei : i = t
                  · subst ei
                    rw [if_pos rfl]
                    exact .inr ⟨k, hk, hkg⟩
                  · rw [if_neg ei]
                    exact done5 i (by omega) ne
                · have c1 : cur1 c = curS c := same5 c hc (.inl rfl)
                  have o2 := own5.clear (a := t) (cur' := fun i => if i = t then fun j => curS t j * curS c c - curS t c * curS c j else cur1 i) hc ht tc (by rw [c1]; exact hd0) (fun i hi ne => by rw [if_neg ne]) (fun j hj => by rw [if_pos rfl, e_t, c1])
                  refine o2.light (fun i => if i = t then k else 1) (fun i hi => ?_) (fun i hi j hj => ?_) (by omega)
                  · split
                    · exact hk
                    · decide
                  · by_cases ei : i = t
                    · rw [if_pos ei, if_pos ei, if_pos ei]; exact hkg j hj
                    · rw [if_neg ei, if_neg ei, if_neg ei, Int.one_mul]
                · dsimp only
                  by_cases ei : i = t
                  · rw [if_pos ei]; exact hp7
                  · rw [if_neg ei]; exact pm5 i hi
              refine ⟨B, _, rows.length + 1, rfl, eB', by omega, rawB, fun g0 G7 s7 => ?_, fun g0 N G7 s7 nN eN => ?_⟩
              · obtain ⟨f1, f2, f3, f4, f5, f6, f7, f8, f9⟩ := fin B G7 _ (s6.trans s7) nBR (s7 _ _ eB') ⟨1, by decide, fun j _ => by rw [Int.one_mul]⟩ (.inl fun j hj => zero_light g0 hj)
                exact ⟨_, rfl, _, rfl, R, _, _, t, rfl, rfl, f1, ixT (by rw [refs_len]; omega), f2, _, _, _, _, _, rfl, f3, f4, f5, f6, f7, f8, f9⟩
              · obtain ⟨f1, f2, f3, f4, f5, f6, f7, f8, f9⟩ := fin N G7 _ (s6.trans s7) (fun h => by rw [h, s6 _ _ eR5] at nN; cases nN) eN ⟨_, by exact Int.ofNat_ne_zero.mpr g0, fun j hj => (Int.mul_ediv_cancel' (gcN_dvd (f := fun j => curS t j * curS c c - curS t c * curS c j) (show j < rows.length + 1 by omega))).symm⟩ (prim_light g0)
                exact ⟨_, rfl, _, rfl, R, _, _, t, rfl, rfl, f1, ixT (by rw [refs_len]; omega), f2, _, _, _, _, _, rfl, f3, f4, f5, f6, f7, f8, f9⟩
            · have f0 : curS t c = 0 := by
                have := of_decide_eq_true (not_false' e2)
                injection this
              obtain ⟨k1, k2⟩ := keepT (.inr f0)
              exact ⟨sG5, ads1, cur1, _, _, _, rfl, eR5, eA5, ec5, k1, k2, own5, pm5⟩
          · have tc : t = c := by
              have := of_decide_eq_true (not_false' e1)
              injection this with this
              exact Int.ofNat.inj this
            obtain ⟨k1, k2⟩ := keepT (.inl tc)
            exact ⟨sG5, ads1, cur1, _, _, _, rfl, eR5, eA5, ec5, k1, k2, own5, pm5⟩
        · obtain ⟨sG5, ads1, cur1, y10', y11', y13', rfl, eR5, eA5, ec5, same5, done5, own5, pm5⟩ := hh
          have c1 : cur1 c = curS c := same5 c hc (.inl rfl)
          have z5 : ∀ i, i < rows.length → i ≠ c → cur1 i c = 0 := fun i hi ne => by
            rcases done5 i hi ne with ⟨h1, h2⟩ | ⟨k, hk, h2⟩
            · rw [h2]; exact h1
            · have := h2 c (by omega)
              have : k * cur1 i c = 0 := by rw [← this]; grind
              rcases Int.mul_eq_zero.mp this with h | h
              · exact absurd h hk
              · exact h
          exact ⟨sG5, cur1, fun i => r' (exch c a i), _, _, _, _, _, _, _, _, _, _, _, rfl, ⟨ads1, eR5, eA5⟩, own5.next (by rw [c1]; exact hd0) z5, likeS.next hc hd0 c1 (fun i hi ne => done5 i hi ne), fun i j => rB _ _, pm5⟩
    · obtain ⟨sG, cur, r', y2, y3, y4, y5, y6, y7, y8, y9, y10, y11, y13, rfl, ⟨ads, eR, eA⟩, own, like, rB, pm⟩ := hh
      have sm : ∀ i j, i < rows.length → j ≤ rows.length → (cur i j).natAbs < 2 ^ 4000 := fun i j hi hj => Nat.lt_of_le_of_lt (like.le hi hj (pm i hi)) (tk_small rB (by omega) j)
      refine ⟨_, rfl, R, _, rfl, .inl (.of eR), ?_⟩
      rw [refs_len]
      refine ⟨_, rfl, by omega, by omega, ?_⟩
      rw [Int.toNat_natCast]
      refine lc_newZ (Z := Trk H) (f := fun j => sgP (cur j rows.length) (cur j j)) (walk_range (lo := 0) (n := rows.length)) (fun _ _ _ _ h => h) (fun _ _ => trivial) (by omega) (fun _ => rfl) (fun D nD j x G2 hj ex s2 tD Rr hR => ?_) (fun D G2 vs s2 nD eD aD => ?_)
      · cases (show x = _ from ex)
        dsimp only
        rw [show (0 : Int) + (j : Int) = (j : Int) by omega]
        have eRj := s2 _ _ eR
        have eAj := s2 _ _ (eA j hj).2
        have l1 : atI (rowV (cur j) (rows.length + 1)) (-1) = some (.int (cur j rows.length)) := by rw [rowV_succ]; exact atI_last _ _
        refine ⟨_, rfl, _, rfl, R, _, _, _, rfl, rfl, .inl (.of eRj), atI_nat (refs_get hj), 1, rfl, ads j, _, _, _, rfl, rfl, .inl (.of eAj), l1, _, rfl, _, rfl, R, _, _, _, rfl, rfl, .inl (.of eRj), atI_nat (refs_get hj), _, rfl, ads j, _, _, _, rfl, rfl, .inl (.of eAj), atI_nat (rowV_get (by omega)), _, _, rfl, own.dia j hj, Nat.lt_of_lt_of_le (sm j j hj (by omega)) (Nat.pow_le_pow_right (by decide) (by decide)), fun p3 G3 s3 n3 e3 => ?_⟩
        refine hR _ G3 s3 ⟨p3, _, rfl, fun h => ?_, e3, .cons rfl (.cons rfl .nil)⟩
        rcases h with rfl | h
        · exact tD n3
        · exact Trk.same (sG.trans s2) h n3
      refine ⟨D, vs, rfl, .inl ⟨.of eD, fun p4 n4 => ?_⟩⟩
      have y4' := same_new n4 (.tup vs)
      have s4 := sG.trans (s2.trans y4')
      have e4 : (upd G2 p4 (.tup vs)) p4 = some (.tup vs) := upd_same
      have a4 : AtAll (Trk H) (upd G2 p4 (.tup vs)) ((List.range rows.length).map fun i => sgP (cur i rows.length) (cur i i)) vs := (aD.less fun a h => .inr h).same y4'
      have aT : At (Trk H) (upd G2 p4 (.tup vs)) (.tup ((List.range rows.length).map fun i => sgP (cur i rows.length) (cur i i))) (.ref p4) := ⟨p4, vs, rfl, fun h => Trk.not n4 (Trk.same (sG.trans s2) h), e4, a4⟩
      generalize upd G2 p4 (.tup vs) = G4 at *
      have lvs := a4.len
      rw [List.length_map, List.length_range] at lvs
      refine ⟨_, rfl, p4, rfl, ⟨_, .of e4⟩, lc_valW (f := fun j => .bl (decide (cur j rows.length / sgcd (cur j rows.length) (cur j j) < 0))) (p := fun _ => true) walk_tup (fun _ _ _ _ h => h) (fun G sG => .of (sG _ _ e4)) (by omega) (fun _ => rfl) (fun j x G hj ex sG R hR => hR G (Same.refl G)) (fun j x G hj ex hp sG Rr hR => ?_) (fun B G6 s6 nB eB => ?_)⟩
      · obtain ⟨d, ed, hd⟩ := (a4.same sG).get ex
        rw [List.getElem?_map, List.getElem?_range (by omega)] at ed
        cases ed
        obtain ⟨q5, va, vb, rfl, e5, ha, hb⟩ := hd.pair
        cases (show va = _ from ha)
        exact ⟨_, rfl, q5, _, 0, _, rfl, rfl, .of e5, rfl, _, _, rfl, rfl, hR G (Same.refl G)⟩
      rw [filt_all, lvs] at eB
      have eB' : G6 B = some (.lst (((List.range rows.length).map fun j => decide (cur j rows.length / sgcd (cur j rows.length) (cur j j) < 0)).map V.bl)) := by rw [eB, List.map_map]; rfl
      refine ⟨B, _, rfl, .of eB', _, rfl, iteB (fun e => ?_) (fun e => ?_)⟩
      · rw [List.any_map, List.any_eq_true] at e
        obtain ⟨j, mj, hj⟩ := e
        have hj' := of_decide_eq_true (show decide (cur j rows.length / sgcd (cur j rows.length) (cur j j) < 0) = true from hj)
        rw [List.mem_range] at mj
        exact q0 (fun hp => own.neg (eqr_sg rows) mj ((sgn_lt (own.dia j mj)).mp hj') hp) _ (s4.trans s6)
      · refine ⟨_, rfl, q1 cur _ G6 own (fun i hi => ?_) (s4.trans s6) (aT.same s6)⟩
        refine Classical.byContradiction fun hn => ?_
        rw [List.any_map] at e
        have := List.any_eq_false.mp e i (List.mem_range.mpr hi)
        exact this (decide_eq_true ((sgn_lt (own.dia i hi)).mpr (by omega)))
end
end KL
end
section
set_option maxHeartbeats 1000000
namespace KL
open PySem PySem.Spec PyProof.Rows L2
theorem own_wos {z : Int} {rows : List Th} (ok : MOk z rows) {cur : Nat → Nat → Int} (own : Own (trimL z rows).length (trimL z rows).length (eqr (trimL z rows)) cur) (nn : ∀ i, i < (trimL z rows).length → 0 ≤ cur i (trimL z rows).length * cur i i) :
    PosR (trimL z rows) ∧ ((List.range (trimL z rows).length).map fun i => sgP (cur i (trimL z rows).length) (cur i i)) = wosL (trimL z rows) := by
  have hp : PosR (trimL z rows) := by
    by_cases hk : keep rows = []
    · have : trimL z rows = [bareRow z] := by unfold trimL; rw [if_pos hk]
      rw [this]; exact bare_pos z
    · exact own.pos (eqr_sg _) (eqr_live (trimL_ok ok) (trim_lvE ok hk)) (eqr_id _) nn
  refine ⟨hp, List.map_congr_left fun i m => ?_⟩
  have hi := List.mem_range.mp m
  have e := own.same hp hi
  obtain ⟨h1, h2, _⟩ := low_eq (a := Yk (eqr (trimL z rows)) (trimL z rows).length i (trimL z rows).length) (b := dk (eqr (trimL z rows)) (trimL z rows).length) (c := cur i (trimL z rows).length) (e := cur i i) (s := sgcd (cur i (trimL z rows).length) (cur i i)) (hp _ (Nat.le_refl _)) (own.dia i hi) e rfl
  show Th.tup [.int _, .int _] = Th.tup [.int _, .int _]
  rw [h1, h2]
  rfl
/-- the law's own worths of a trimmed machine -/
def spOwn1 : Sp := fun vs H Q _ => ∃ (Z : Zone) (u : V) (z : Int) (rows : List Th), vs = [u] ∧ At Z H (.tup [.int z, .tup (trimL z rows)]) u ∧ MOk z rows ∧
  (PosR (trimL z rows) → ∀ v H', Same H H' → At (Trk H) H' (wosT (trimL z rows)) v → Q v H') ∧ (¬ PosR (trimL z rows) → ∀ H', Same H H' → Q .non H')
section
variable {P : Program} {w : World} {K : PySem.W.Frag} {mg : Str → Option Value} {base : Heap} {k : Nat} {t1 t2 t3 : Tok}
theorem own_one (c : Cal P w K mg base CX0 k "_law_worths" ["_law_small"] spOwn) : Cal P w K mg base CX0 k "_law_worths" ["_law_small"] spOwn1 :=
  c.imp fun vs H Q E h => by
    obtain ⟨Zn, u, z, rows, rfl, hu, ok, q1, q0⟩ := h
    refine ⟨Zn, u, z, trimL z rows, rfl, hu, trimL_ok ok, fun cur v H' own nn s' a' => ?_, q0⟩
    obtain ⟨hp, e⟩ := own_wos ok own nn
    rw [e] at a'
    exact q1 hp v H' s' a'
end
theorem wos_fracs {z : Int} {rows : List Th} (ok : MOk z rows) (hp : PosR rows) : Fracs (dk (eqr rows) rows.length).natAbs (wosL rows) := by
  have n30 := ok.n30
  have d0 := hp _ (Nat.le_refl _)
  have ds := dk_small (k := rows.length) (eqr_abs ok) (by omega)
  refine ⟨by omega, ds, wos_frac hp, fun f m => ?_, fun f m => ?_⟩
  · obtain ⟨i, mi, rfl⟩ := List.mem_map.mp m
    show (lowT _ _).natAbs < 2 ^ 4000
    refine low_abs ?_
    exact Nat.lt_of_le_of_lt (Dt_abs (N := 31) (M := 31 * 2 ^ 64) (eqr_abs ok) (Nat.le_refl _) _ (by omega)) (pow_small (by omega))
  · obtain ⟨i, mi, rfl⟩ := List.mem_map.mp m
    show (dk (eqr rows) rows.length / ((Nat.gcd (Yk (eqr rows) rows.length i rows.length).natAbs (dk (eqr rows) rows.length).natAbs : Nat) : Int)).natAbs ∣ _
    have p2 := (low_parts (a := Yk (eqr rows) rows.length i rows.length) d0).2.1
    exact Int.natAbs_dvd_natAbs.mpr ⟨_, p2.symm⟩
theorem nought_fracs (n : Nat) : Fracs 1 (List.replicate n (.tup [.int 0, .int 1])) := by
  refine ⟨by decide, Nat.lt_of_lt_of_le (by decide : 1 < 2 ^ 1) (Nat.pow_le_pow_right (by decide) (by decide)), fun f m => ?_, fun f m => ?_, fun f m => ?_⟩
  · rw [(List.mem_replicate.mp m).2]; decide
  · rw [(List.mem_replicate.mp m).2]; exact Nat.pow_pos (by decide)
  · rw [(List.mem_replicate.mp m).2]; exact Nat.dvd_refl _
theorem Fracs.small {D : Nat} {fs : List Th} (h : Fracs D fs) : SmallF (.tup fs) := fun ys e hB => by
  injection e with e
  subst e
  refine ⟨fun f m => Nat.lt_of_lt_of_le (h.tp f m) (Nat.pow_le_pow_right (by decide) (by decide)), D, h.D0, Nat.lt_of_lt_of_le h.D1 (Nat.pow_le_pow_right (by decide) (by decide)), h.bt⟩
theorem Fracs.lay {D : Nat} {fs : List Th} (h : Fracs D fs) : (py (.tup fs)).canLay0 = true := lay_tup fun x m => (h.item m).ly
theorem Fracs.dp {D : Nat} {fs : List Th} (h : Fracs D fs) : dp (.tup fs) ≤ 64 := by
  have := dpL_le fun x m => (h.item (f := x) m).dp
  show dpL fs + 1 ≤ 64
  omega
theorem raise_one {a b : Int} {j k : Nat} (h : RaiseIs a b j) (g : RaiseIs a b k) : j = k := by
  rcases Nat.lt_trichotomy j k with l | l | l
  · have := g.2 j l; have := h.1; omega
  · exact l
  · have := h.2 k l; have := g.1; omega
end KL
end
section
set_option maxHeartbeats 1000000
namespace KL
open PySem PySem.Spec PyProof.Rows L2
/-! ### determinants look at their own columns alone -/
theorem Dt_cols {r s : Nat → Nat → Int} : ∀ {n : Nat} {c : Nat → Nat}, (∀ t, t < n → ∀ x, x < n → r t (c x) = s t (c x)) → Dt r n c = Dt s n c
  | 0, _, _ => rfl
  | n + 1, c, h => by
    rw [Dt, Dt]
    refine sumN_congr fun p hp => ?_
    rw [h n (by omega) p hp, Dt_cols (n := n) (c := fun x => c (skip p x)) fun t ht x hx => h t (by omega) (skip p x) (by unfold skip; split <;> omega)]
theorem dk_cols {r s : Nat → Nat → Int} {n m : Nat} (hm : m ≤ n) (h : ∀ t, t < n → ∀ j, j < n → r t j = s t j) : dk r m = dk s m := Dt_cols fun t ht x hx => h t (by omega) x (by show x < n; omega)
/-- the last column otherwise -/
def withR (n : Nat) (r : Nat → Nat → Int) (c : Nat → Int) (t j : Nat) : Int := if j = n then c t else r t j
theorem withR_dk {n m : Nat} {r : Nat → Nat → Int} {c : Nat → Int} (hm : m ≤ n) : dk (withR n r c) m = dk r m := dk_cols hm fun t _ j hj => by unfold withR; rw [if_neg (by omega)]
theorem withR_Lf {n : Nat} {r : Nat → Nat → Int} {c : Nat → Int} {X : Nat → Int} {D : Int} (t : Nat) : Lf n X D (withR n r c t) = sumN n (fun j => r t j * X j) - D * c t := by
  unfold Lf withR
  rw [if_pos rfl, sumN_congr fun j hj => by rw [if_neg (by omega)]]
theorem withR_sg {n : Nat} {r : Nat → Nat → Int} {c : Nat → Int} (s : Sg n r) (hc : ∀ t, t < n → 0 ≤ c t) : Sg n (withR n r c) := by
  obtain ⟨h1, h2⟩ := s
  refine ⟨fun i j hi hj ne => ?_, fun i j hi hj => ?_⟩
  · unfold withR
    rw [if_neg (by omega)]
    exact h1 i j hi hj ne
  · unfold withR
    split
    · exact hc i hi
    · exact h2 i j hi hj
/-- what lies above nought at a state that is come to lies above nought at the start -/
theorem sol_sure {rows : List Th} (hp : PosR rows) {V σ : Nat → Int} {D : Int} (hD : 0 < D) (hσ : ∀ t, t < rows.length → 0 ≤ σ t) (hV : ∀ t, t < rows.length → sumN rows.length (fun j => eqr rows t j * V j) = D * σ t) : ∀ q, q < rows.length → 0 ≤ V q := fun q hq => by
  have sl := one_sol (r := withR rows.length (eqr rows) σ) (n := rows.length) (X := V) (D := D) (fun t ht => by rw [withR_Lf, hV t ht]; omega) hq
  have nn := sol_nonneg (withR_sg (eqr_sg rows) hσ) (fun m hm => by rw [withR_dk hm]; exact hp m hm) hq
  rw [withR_dk (Nat.le_refl _)] at sl
  have d := hp _ (Nat.le_refl _)
  refine Classical.byContradiction fun c => ?_
  have h1 : dk (eqr rows) rows.length * V q < 0 := Int.mul_neg_of_pos_of_neg d (by omega)
  have h2 : 0 ≤ D * Yk (withR rows.length (eqr rows) σ) rows.length q rows.length := Int.mul_nonneg (by omega) nn
  omega
theorem sumN_ge {f : Nat → Int} {q : Nat} : ∀ {n : Nat}, (∀ i, i < n → 0 ≤ f i) → q < n → f q ≤ sumN n f
  | 0, _, h => by omega
  | n + 1, h, hq => by
    rw [sumN]
    have hn := h n (by omega)
    have nn : ∀ m, m ≤ n → 0 ≤ sumN m f := fun m => by
      induction m with
      | zero => intro _; exact Int.le_refl _
      | succ m ih => intro hm; rw [sumN]; have := ih (by omega); have := h m (by omega); omega
    by_cases e : q = n
    · subst e; have := nn q (Nat.le_refl _); omega
    · have := sumN_ge (n := n) (fun i hi => h i (by omega)) (show q < n by omega)
      omega
/-- 2 ** 60 times a state's own share, put apart -/
theorem eq_split {rows : List Th} {V : Nat → Int} {t : Nat} (ht : t < rows.length) : sumN rows.length (fun j => eqr rows t j * V j) = 2 ^ 60 * V t - sumN rows.length (fun j => shS (stepsOf ((rows[t]?).getD .non)) j * V j) := by
  rw [sumN_congr (g := fun j => (if j = t then 2 ^ 60 * V t else 0) + - (shS (stepsOf ((rows[t]?).getD .non)) j * V j)) fun j hj => by
    unfold eqr
    rw [if_pos hj]
    by_cases e : j = t
    · rw [if_pos e, if_pos e, e]; grind
    · rw [if_neg e, if_neg e]; grind]
  rw [sumN_add, sumN_neg, sumN_one ht fun j hj ne => if_neg ne, if_pos rfl]
  omega
theorem sol_above {z : Int} {rows : List Th} (ok : MOk z rows) {V σ : Nat → Int} {D : Int} (hD : 0 < D) (nn : ∀ q, q < rows.length → 0 ≤ V q) (hσ : ∀ t, t < rows.length → 0 ≤ σ t) (hV : ∀ t, t < rows.length → sumN rows.length (fun j => eqr rows t j * V j) = D * σ t) {a b : Nat} (ha : a < rows.length) (r : Rc rows a b) (hb : 0 < σ b) : 0 < V a := by
  have part : ∀ t, t < rows.length → ∀ j, j < rows.length → 0 ≤ shS (stepsOf ((rows[t]?).getD .non)) j * V j := fun t _ j hj => Int.mul_nonneg (shS_nn _ _) (nn j hj)
  have whole : ∀ t, t < rows.length → (0 < σ t ∨ ∃ j, j < rows.length ∧ 0 < shS (stepsOf ((rows[t]?).getD .non)) j ∧ 0 < V j) → 0 < V t := fun t ht h => by
    have e := hV t ht
    rw [eq_split ht] at e
    have nonn : 0 ≤ sumN rows.length (fun j => shS (stepsOf ((rows[t]?).getD .non)) j * V j) := by
      have := sumN_ge (n := rows.length) (part t ht) ht
      have := part t ht t ht
      omega
    have h0 : 0 ≤ D * σ t := Int.mul_nonneg (by omega) (hσ t ht)
    rcases h with h | ⟨j, hj, h1, h2⟩
    · have := Int.mul_pos hD h
      omega
    · have g := sumN_ge (n := rows.length) (part t ht) hj
      have := Int.mul_pos h1 h2
      omega
  have key : ∀ c, Rc rows a c → 0 < V c → 0 < V a := fun c r => by
    induction r with
    | base m => rw [List.mem_singleton.mp m]; exact fun h => h
    | step r0 m ih =>
      rename_i i t
      intro h
      have hi := ok.rc_lt ha r0
      obtain ⟨l, mo, hl2, es⟩ := nx_step ok m
      have mem : (Th.tup [.int mo, .int (t : Int)]) ∈ stepsOf ((rows[i]?).getD .non) := by
        unfold stepAt at es
        cases eg : (stepsOf ((rows[i]?).getD .non))[l]? with
        | none => rw [eg] at es; cases es
        | some x =>
          rw [eg] at es
          have es' : x = .tup [.int mo, .int (t : Int)] := es
          rw [← es']
          exact List.mem_of_getElem? eg
      have p := shS_pos (j := t) (st := .tup [.int mo, .int (t : Int)]) (by
        show 0 < (if (t : Int) = (t : Int) then (2 : Int) ^ (60 - mo).toNat else 0)
        rw [if_pos rfl]; exact pow_pos60 mo) mem
      exact ih (whole i hi (.inr ⟨t, ok.rc_lt ha (.step r0 m), p, h⟩))
  exact key b r (whole b (ok.rc_lt ha r) (.inl hb))
/-! ### rows' sums -/
/-- what a step counts, of 2 ** 60 -/
def kT : Th → Int
  | .tup [.int m, .int _] => 2 ^ (60 - m).toNat
  | _ => 0
def kS (ss : List Th) : Int := (ss.map kT).sum
def kR (r : Th) : Int := shE (endOf r) + kS (stepsOf r)
theorem shT_sum {n : Nat} {st : Th} (h : StepIs (n : Int) st) : sumN n (fun j => shT j st) = kT st := by
  rcases h with rfl | ⟨m, s, rfl, m0, m1, s0, s1⟩
  · exact sumN_zero fun j hj => rfl
  · obtain ⟨t, rfl⟩ : ∃ t : Nat, s = (t : Int) := ⟨s.toNat, by omega⟩
    rw [sumN_one (q := t) (by omega) fun j hj ne => ?_]
    · show (if (t : Int) = (t : Int) then (2 : Int) ^ (60 - m).toNat else 0) = 2 ^ (60 - m).toNat
      rw [if_pos rfl]
    · show (if (t : Int) = (j : Int) then (2 : Int) ^ (60 - m).toNat else 0) = 0
      rw [if_neg (by omega)]
theorem shS_sum {n : Nat} : ∀ {ss : List Th}, (∀ st ∈ ss, StepIs (n : Int) st) → sumN n (fun j => shS ss j) = kS ss
  | [], _ => sumN_zero fun j hj => rfl
  | st :: ss, h => by
    have e : ∀ j, shS (st :: ss) j = shT j st + shS ss j := fun j => by unfold shS; rw [List.map_cons, List.sum_cons]
    rw [sumN_congr fun j _ => e j, sumN_add, shT_sum (h st List.mem_cons_self), shS_sum fun x m => h x (List.mem_cons_of_mem _ m)]
    unfold kS
    rw [List.map_cons, List.sum_cons]
theorem ones_sum {z : Int} {rows : List Th} (ok : MOk z rows) {t : Nat} (ht : t < rows.length) : sumN rows.length (fun j => eqr rows t j * 1) = 2 ^ 60 - kS (stepsOf ((rows[t]?).getD .non)) := by
  obtain ⟨e, ss, er, h1, h2, h3⟩ := ok.row ht
  rw [eq_split (V := fun _ => 1) ht, sumN_congr (g := fun j => shS (stepsOf ((rows[t]?).getD .non)) j) fun j _ => Int.mul_one _, er]
  show 2 ^ 60 * 1 - sumN rows.length (fun j => shS ss j) = 2 ^ 60 - kS ss
  rw [shS_sum h3, Int.mul_one]
theorem end_col (rows : List Th) (t : Nat) : eqr rows t rows.length = shE (endOf ((rows[t]?).getD .non)) := by
  unfold eqr
  rw [if_neg (by omega), if_pos rfl]
/-- each row's sum is just 1: each worth is 1 -/
theorem just_one {z : Int} {rows : List Th} (ok : MOk z rows) (h : ∀ t, t < (trimL z rows).length → kR (((trimL z rows)[t]?).getD .non) = 2 ^ 60) : PosR (trimL z rows) ∧ ∀ q, q < (trimL z rows).length → Yk (eqr (trimL z rows)) (trimL z rows).length q (trimL z rows).length = dk (eqr (trimL z rows)) (trimL z rows).length := by
  have okT := trimL_ok ok
  have so : ∀ t, t < (trimL z rows).length → Lf (trimL z rows).length (fun _ => 1) 1 (eqr (trimL z rows) t) = 0 := fun t ht => by
    unfold Lf
    rw [ones_sum okT ht, end_col]
    have := h t ht
    unfold kR at this
    omega
  refine ⟨sol_Pos ok (by decide) (fun _ _ => by decide) so, fun q hq => ?_⟩
  have := one_sol so hq
  omega
/-- a row's sum is below 1, at a state that is come to, others at most 1: the total is below 1 -/
theorem below_one {z : Int} {rows : List Th} (ok : MOk z rows) (hk : keep rows ≠ []) (h : ∀ t, t < (trimL z rows).length → kR (((trimL z rows)[t]?).getD .non) ≤ 2 ^ 60) {b : Nat} (rb : Rc (trimL z rows) 0 b) (hb : kR (((trimL z rows)[b]?).getD .non) < 2 ^ 60) :
    PosR (trimL z rows) ∧ Yk (eqr (trimL z rows)) (trimL z rows).length 0 (trimL z rows).length < dk (eqr (trimL z rows)) (trimL z rows).length := by
  have okT := trimL_ok ok
  have n1 := okT.n1
  have lv := eqr_live okT (trim_lvE ok hk)
  generalize trimL z rows = TL at *
  have hp : PosR TL := by
    have sg := withR_sg (c := fun t => 2 ^ 60 - kS (stepsOf ((TL[t]?).getD .non))) (eqr_sg TL) fun t ht => by
      have := h t ht
      unfold kR at this
      have := shE_nn (endOf ((TL[t]?).getD .non))
      omega
    have pp := piv_pos (n := TL.length) (r := withR TL.length (eqr TL) fun t => 2 ^ 60 - kS (stepsOf ((TL[t]?).getD .non))) (X := fun _ => 1) (D := 1) sg ?_ ?_ (by decide) (fun _ _ => by decide) (fun t ht => ?_) TL.length (Nat.le_refl _)
    · intro m hm
      have := pp m hm
      rwa [withR_dk hm] at this
    · intro U hU h1 h2
      refine lv U hU (fun t ht ut j hj nj => ?_) fun t ht ut => ?_
      · have := h1 t ht ut j hj nj
        unfold withR at this
        rwa [if_neg (by omega)] at this
      · have := h2 t ht ut
        unfold withR at this
        rw [if_pos rfl] at this
        have h3 : 2 ^ 60 - kS (stepsOf ((TL[t]?).getD .non)) = 0 := this
        have k := h t ht
        unfold kR at k
        have := shE_nn (endOf ((TL[t]?).getD .non))
        rw [end_col]
        omega
    · intro i t hi ht
      unfold withR
      rw [if_neg (by omega)]
      exact eqr_id TL i t hi ht
    · rw [withR_Lf, ones_sum okT ht]
      omega
  refine ⟨hp, ?_⟩
  have d0 := hp _ (Nat.le_refl _)
  have hV : ∀ t, t < TL.length → sumN TL.length (fun j => eqr TL t j * (dk (eqr TL) TL.length - Yk (eqr TL) TL.length j TL.length)) = dk (eqr TL) TL.length * (2 ^ 60 - kR ((TL[t]?).getD .non)) := fun t ht => by
    have e1 := ones_sum okT ht
    have e2 := the_sol (r := eqr TL) (n := TL.length) (fun m hm => by have := hp m hm; omega) ht
    unfold Lf at e2
    rw [end_col] at e2
    rw [sumN_congr (g := fun j => dk (eqr TL) TL.length * (eqr TL t j * 1) + - (eqr TL t j * Yk (eqr TL) TL.length j TL.length)) fun j _ => by grind, sumN_add, sumN_mul, sumN_neg, e1]
    unfold kR
    grind
  have hσ : ∀ t, t < TL.length → 0 ≤ (fun t => 2 ^ 60 - kR ((TL[t]?).getD .non)) t := fun t ht => by have := h t ht; show 0 ≤ 2 ^ 60 - kR ((TL[t]?).getD .non); omega
  have nn := sol_sure hp d0 hσ hV
  have := sol_above okT d0 nn hσ hV (a := 0) (by omega) rb (by show 0 < 2 ^ 60 - kR ((TL[b]?).getD .non); omega)
  omega
/-- .. above 1, others at least 1: above 1, if there is one -/
theorem above_one {z : Int} {rows : List Th} (ok : MOk z rows) (h : ∀ t, t < rows.length → 2 ^ 60 ≤ kR ((rows[t]?).getD .non)) {b : Nat} (rb : Rc rows 0 b) (hb : 2 ^ 60 < kR ((rows[b]?).getD .non)) (hp : PosR rows) :
    dk (eqr rows) rows.length < Yk (eqr rows) rows.length 0 rows.length := by
  have n1 := ok.n1
  have d0 := hp _ (Nat.le_refl _)
  have hV : ∀ t, t < rows.length → sumN rows.length (fun j => eqr rows t j * (Yk (eqr rows) rows.length j rows.length - dk (eqr rows) rows.length)) = dk (eqr rows) rows.length * (kR ((rows[t]?).getD .non) - 2 ^ 60) := fun t ht => by
    have e1 := ones_sum ok ht
    have e2 := the_sol (r := eqr rows) (n := rows.length) (fun m hm => by have := hp m hm; omega) ht
    unfold Lf at e2
    rw [end_col] at e2
    rw [sumN_congr (g := fun j => (eqr rows t j * Yk (eqr rows) rows.length j rows.length) + (- dk (eqr rows) rows.length) * (eqr rows t j * 1)) fun j _ => by grind, sumN_add, sumN_mul, e1]
    unfold kR
    grind
  have hσ : ∀ t, t < rows.length → 0 ≤ (fun t => kR ((rows[t]?).getD .non) - 2 ^ 60) t := fun t ht => by have := h t ht; show 0 ≤ kR ((rows[t]?).getD .non) - 2 ^ 60; omega
  have nn := sol_sure hp d0 hσ hV
  have := sol_above ok d0 nn hσ hV (a := 0) (by omega) rb (by show 0 < kR ((rows[b]?).getD .non) - 2 ^ 60; omega)
  omega
end KL
end
section
set_option maxHeartbeats 1000000
namespace KL
open PySem PySem.Spec PyProof.Rows L2
/-! ### sums over the states that are come to, not trimmed -/
/-- what a step tells of values, times 2 ** 60 -/
def vT (X : Nat → Int) : Th → Int
  | .tup [.int m, .int s] => 2 ^ (60 - m).toNat * X s.toNat
  | _ => 0
def vS (X : Nat → Int) (ss : List Th) : Int := (ss.map (vT X)).sum
theorem vS_nil (X : Nat → Int) : vS X [] = 0 := rfl
theorem vS_cons (X : Nat → Int) (st : Th) (ss : List Th) : vS X (st :: ss) = vT X st + vS X ss := by unfold vS; rw [List.map_cons, List.sum_cons]
theorem vS_app (X : Nat → Int) : ∀ (ss ts : List Th), vS X (ss ++ ts) = vS X ss + vS X ts
  | [], ts => by rw [List.nil_append, vS_nil]; omega
  | s :: ss, ts => by rw [List.cons_append, vS_cons, vS_cons, vS_app X ss ts]; omega
theorem vS_none (X : Nat → Int) : ∀ n : Nat, vS X (List.replicate n .non) = 0
  | 0 => rfl
  | n + 1 => by rw [List.replicate_succ, vS_cons, vS_none X n]; rfl
theorem vS_mul (X : Nat → Int) (c : Int) : ∀ ss : List Th, vS (fun s => c * X s) ss = c * vS X ss
  | [] => by rw [vS_nil, vS_nil, Int.mul_zero]
  | st :: ss => by
    have e : vT (fun s => c * X s) st = c * vT X st := by
      unfold vT
      split
      · grind
      · rw [Int.mul_zero]
    rw [vS_cons, vS_cons, vS_mul X c ss, e, Int.mul_add]
theorem vT_sum {n : Nat} {st : Th} (h : StepIs (n : Int) st) (X : Nat → Int) : sumN n (fun j => shT j st * X j) = vT X st := by
  rcases h with rfl | ⟨m, s, rfl, m0, m1, s0, s1⟩
  · exact sumN_zero fun j hj => Int.zero_mul _
  · obtain ⟨t, rfl⟩ : ∃ t : Nat, s = (t : Int) := ⟨s.toNat, by omega⟩
    have g : ∀ j : Nat, shT j (.tup [.int m, .int (t : Int)]) = if (t : Int) = (j : Int) then (2 : Int) ^ (60 - m).toNat else 0 := fun _ => rfl
    rw [sumN_one (q := t) (by omega) fun j hj ne => by rw [g, if_neg (by omega), Int.zero_mul], g, if_pos rfl]
    rfl
theorem vS_sum {n : Nat} (X : Nat → Int) : ∀ {ss : List Th}, (∀ st ∈ ss, StepIs (n : Int) st) → sumN n (fun j => shS ss j * X j) = vS X ss
  | [], _ => sumN_zero fun j hj => Int.zero_mul _
  | st :: ss, h => by
    have e : ∀ j, shS (st :: ss) j = shT j st + shS ss j := fun j => by unfold shS; rw [List.map_cons, List.sum_cons]
    rw [sumN_congr (g := fun j => shT j st * X j + shS ss j * X j) fun j _ => by rw [e j, Int.add_mul], sumN_add, vT_sum (h st List.mem_cons_self), vS_sum X fun x m => h x (List.mem_cons_of_mem _ m), vS_cons]
theorem vS_congr {X Y : Nat → Int} : ∀ {ss : List Th}, (∀ m s, Th.tup [.int m, .int s] ∈ ss → X s.toNat = Y s.toNat) → vS X ss = vS Y ss
  | [], _ => rfl
  | st :: ss, h => by
    rw [vS_cons, vS_cons, vS_congr fun m s k => h m s (List.mem_cons_of_mem _ k)]
    congr 1
    unfold vT
    split
    · rw [h _ _ List.mem_cons_self]
    · rfl
theorem vS_ge {X : Nat → Int} : ∀ {ss : List Th}, (∀ m s, Th.tup [.int m, .int s] ∈ ss → 0 ≤ X s.toNat) → 0 ≤ vS X ss ∧ ∀ m s, Th.tup [.int m, .int s] ∈ ss → 2 ^ (60 - m).toNat * X s.toNat ≤ vS X ss
  | [], _ => ⟨Int.le_refl _, fun _ _ h => nomatch h⟩
  | st :: ss, h => by
    obtain ⟨g1, g2⟩ := vS_ge fun m s k => h m s (List.mem_cons_of_mem _ k)
    have t0 : 0 ≤ vT X st := by
      unfold vT
      split
      · exact Int.mul_nonneg (Int.le_of_lt (pow_pos60 _)) (h _ _ List.mem_cons_self)
      · exact Int.le_refl _
    rw [vS_cons]
    refine ⟨by omega, fun m s k => ?_⟩
    rcases List.mem_cons.mp k with e | k
    · rw [← e]
      show _ ≤ 2 ^ (60 - m).toNat * X s.toNat + vS X ss
      omega
    · have := g2 m s k
      omega
abbrev rowT (rows : List Th) (s : Nat) : Th := (rows[s]?).getD .non
abbrev stS (rows : List Th) (s : Nat) : List Th := stepsOf (rowT rows s)
abbrev enS (rows : List Th) (s : Nat) : Th := endOf (rowT rows s)
/-- values that are at least (le: just) what the rows tell, from nought on -/
structure RSup (rows : List Th) (X : Nat → Int) (D : Int) : Prop where
  D0 : 0 < D
  nn : ∀ s, Rc rows 0 s → 0 ≤ X s
  dead : ∀ s, Rc rows 0 s → ¬ lvE rows s → X s = 0
  eq : ∀ s, Rc rows 0 s → vS X (stS rows s) + D * shE (enS rows s) ≤ 2 ^ 60 * X s
structure RSol (rows : List Th) (X : Nat → Int) (D : Int) : Prop where
  D0 : 0 < D
  nn : ∀ s, Rc rows 0 s → 0 ≤ X s
  dead : ∀ s, Rc rows 0 s → ¬ lvE rows s → X s = 0
  eq : ∀ s, Rc rows 0 s → vS X (stS rows s) + D * shE (enS rows s) = 2 ^ 60 * X s
theorem RSol.sup {rows : List Th} {X : Nat → Int} {D : Int} (h : RSol rows X D) : RSup rows X D := ⟨h.D0, h.nn, h.dead, fun s r => by have := h.eq s r; omega⟩
section
variable {z : Int} {rows : List Th} {X : Nat → Int} {D : Int}
theorem st_nx (ok : MOk z rows) {s : Nat} {m t : Int} (h : Th.tup [.int m, .int t] ∈ stS rows s) : t.toNat ∈ ((nxs rows)[s]?).getD [] := by
  obtain ⟨l, hl, e⟩ := List.getElem_of_mem h
  refine step_nx (l := l) (m := m) (s' := t) ?_
  unfold stepAt
  show ((stS rows s)[l]?).getD .non = _
  rw [List.getElem?_eq_getElem hl, e]; rfl
theorem nx_st (ok : MOk z rows) {s t : Nat} (h : t ∈ ((nxs rows)[s]?).getD []) : ∃ m : Int, Th.tup [.int m, .int (t : Int)] ∈ stS rows s := by
  obtain ⟨l, m, _, e⟩ := nx_step ok h
  unfold stepAt at e
  refine ⟨m, ?_⟩
  cases eg : (stS rows s)[l]? with
  | none => rw [show (stepsOf ((rows[s]?).getD .non))[l]? = none from eg] at e; cases e
  | some x =>
    rw [show (stepsOf ((rows[s]?).getD .non))[l]? = some x from eg] at e
    have e' : x = .tup [.int m, .int (t : Int)] := e
    rw [← e']
    exact List.mem_of_getElem? eg
theorem st_is (ok : MOk z rows) {s : Nat} : ∀ st ∈ stS rows s, StepIs (rows.length : Int) st := fun st m => by
  obtain ⟨l, hl, e⟩ := List.getElem_of_mem m
  have := stepAt_is ok s l
  unfold stepAt at this
  rw [show (stepsOf ((rows[s]?).getD .non))[l]? = some st by rw [← e]; exact List.getElem?_eq_getElem hl] at this
  exact this
theorem RSup.pos (h : RSup rows X D) (ok : MOk z rows) {s : Nat} (r : Rc rows 0 s) (l : lvE rows s) : 0 < X s := by
  obtain ⟨e, re, he⟩ := l
  have n1 := ok.n1
  have nnS : ∀ s, Rc rows 0 s → ∀ m t, Th.tup [.int m, .int t] ∈ stS rows s → 0 ≤ X t.toNat := fun s r m t k => h.nn _ (.step r (st_nx ok k))
  have key : ∀ b, Rc rows s b → 0 < X b → 0 < X s := fun b r2 => by
    induction r2 with
    | base m => rw [List.mem_singleton.mp m]; exact fun h => h
    | step r0 m ih =>
      rename_i i t
      intro h2
      have ri : Rc rows 0 i := RS.trans1 r r0
      obtain ⟨mo, hm⟩ := nx_st ok m
      have g := (vS_ge (nnS i ri)).2 _ _ hm
      rw [Int.toNat_natCast] at g
      have := Int.mul_pos (pow_pos60 mo) h2
      have eq := h.eq i ri
      have := Int.mul_nonneg (Int.le_of_lt h.D0) (shE_nn (enS rows i))
      exact ih (by omega)
  refine key e re ?_
  have rE : Rc rows 0 e := RS.trans1 r re
  have eq := h.eq e rE
  have g := (vS_ge (nnS e rE)).1
  have hE : 0 < shE (enS rows e) := by
    obtain ⟨x, ss, er, c1, _⟩ := ok.row (ok.rc_lt n1 rE)
    unfold isEnd at he
    rw [er] at he
    show 0 < shE (endOf ((rows[e]?).getD .non))
    rw [er]
    rcases c1 with rfl | ⟨i, rfl, _⟩
    · exact absurd rfl he
    · exact pow_pos60 i
  have := Int.mul_pos h.D0 hE
  omega
theorem ren_vS {ks : List Nat} {ss : List Th} {n : Nat} (h : ∀ st ∈ ss, StepIs (n : Int) st) (hX : ∀ m s, Th.tup [.int m, .int s] ∈ ss → s.toNat ∉ ks → X s.toNat = 0) : vS (fun j => X ((ks[j]?).getD 0)) (ss.map (renS ks)) = vS X ss := by
  induction ss with
  | nil => rfl
  | cons st ss ih =>
    rw [List.map_cons, vS_cons, vS_cons, ih (fun x m => h x (List.mem_cons_of_mem _ m)) fun m s k => hX m s (List.mem_cons_of_mem _ k)]
    congr 1
    rcases h st List.mem_cons_self with rfl | ⟨m, s, rfl, m0, m1, s0, s1⟩
    · rfl
    · by_cases hk : s.toNat ∈ ks
      · rw [renS, if_pos hk]
        show 2 ^ (60 - m).toNat * X ((ks[((ks.idxOf s.toNat : Nat) : Int).toNat]?).getD 0) = 2 ^ (60 - m).toNat * X s.toNat
        have hl := List.idxOf_lt_length_of_mem hk
        rw [Int.toNat_natCast, List.getElem?_eq_getElem hl, List.getElem_idxOf]; rfl
      · rw [renS, if_neg hk]
        show (0 : Int) = 2 ^ (60 - m).toNat * X s.toNat
        rw [hX m s List.mem_cons_self hk, Int.mul_zero]
theorem trim_row (h : keep rows ≠ []) {j s : Nat} (e : (keep rows)[j]? = some s) : rowT (trimL z rows) j = renT (keep rows) (rowT rows s) := by
  show ((trimL z rows)[j]?).getD .non = _
  rw [trimL_get h e]; rfl
/-- left sides of the trimmed equations -/
theorem trim_left (ok : MOk z rows) (hk : keep rows ≠ []) (hX : ∀ s, Rc rows 0 s → ¬ lvE rows s → X s = 0) {j s : Nat} (e : (keep rows)[j]? = some s) :
    sumN (trimL z rows).length (fun i => eqr (trimL z rows) j i * X (((keep rows)[i]?).getD 0)) = 2 ^ 60 * X s - vS X (stS rows s) := by
  have hj : j < (trimL z rows).length := by rw [trimL_len hk]; exact (List.getElem?_eq_some_iff.mp e).1
  have mk := mem_keep.mp (List.mem_of_getElem? e)
  rw [eq_split hj]
  have e1 := vS_sum (n := (trimL z rows).length) (fun i => X (((keep rows)[i]?).getD 0)) (ss := stS (trimL z rows) j) (st_is (trimL_ok ok))
  rw [show sumN (trimL z rows).length (fun i => shS (stepsOf (((trimL z rows)[j]?).getD .non)) i * X (((keep rows)[i]?).getD 0)) = vS (fun i => X (((keep rows)[i]?).getD 0)) (stS (trimL z rows) j) from e1]
  have e2 : stS (trimL z rows) j = (stS rows s).map (renS (keep rows)) := by
    show stepsOf (rowT (trimL z rows) j) = _
    rw [trim_row hk e]; rfl
  rw [e2, ren_vS (n := rows.length) (st_is ok) fun m t k nk => hX _ (.step mk.2.1 (st_nx ok k)) fun l => nk (mem_keep.mpr ⟨ok.rc_lt ok.n1 (.step mk.2.1 (st_nx ok k)), .step mk.2.1 (st_nx ok k), l⟩), e]
  rfl
theorem trim_end (hk : keep rows ≠ []) {j s : Nat} (e : (keep rows)[j]? = some s) : eqr (trimL z rows) j (trimL z rows).length = shE (enS rows s) := by
  rw [end_col]
  show shE (endOf (rowT (trimL z rows) j)) = _
  rw [trim_row hk e]; rfl
theorem keep_at {j : Nat} (hk : keep rows ≠ []) (hj : j < (trimL z rows).length) : ∃ s, (keep rows)[j]? = some s ∧ Rc rows 0 s ∧ lvE rows s := by
  rw [trimL_len hk] at hj
  refine ⟨_, List.getElem?_eq_getElem hj, ?_⟩
  exact (mem_keep.mp (List.getElem_mem hj)).2
theorem bare_trim (hk : keep rows = []) : trimL z rows = [bareRow z] := by unfold trimL; rw [if_pos hk]
theorem bare_Y (z : Int) : Yk (eqr [bareRow z]) [bareRow z].length 0 [bareRow z].length = 0 := by
  have hp := bare_pos z
  have ts := the_sol (r := eqr [bareRow z]) (n := 1) (fun m hm => by have := hp m hm; omega) (t := 0) (by decide)
  unfold Lf at ts
  rw [show sumN 1 (fun j => eqr [bareRow z] 0 j * Yk (eqr [bareRow z]) 1 j 1) = 0 + eqr [bareRow z] 0 0 * Yk (eqr [bareRow z]) 1 0 1 from rfl] at ts
  have e1 : eqr [bareRow z] 0 1 = 0 := rfl
  have e0 : eqr [bareRow z] 0 0 = 2 ^ 60 := by
    show (2 : Int) ^ 60 - shS (List.replicate z.toNat .non) 0 = 2 ^ 60
    rw [shS_none]; omega
  rw [e1, e0] at ts
  show Yk (eqr [bareRow z]) 1 0 1 = 0
  omega
theorem no_keep (n1 : 1 ≤ rows.length) (hk : keep rows = []) : ¬ lvE rows 0 := fun l => by
  have := keep_zero n1 l
  rw [hk] at this; cases this
/-- values at least as great: the sums are bounded -/
theorem RSup.bounded (h : RSup rows X D) (ok : MOk z rows) : PosR (trimL z rows) := by
  by_cases hk : keep rows = []
  · rw [bare_trim hk]; exact bare_pos z
  have lv := eqr_live (trimL_ok ok) (trim_lvE ok hk)
  have left : ∀ j, j < (trimL z rows).length → D * shE (endOf (((trimL z rows)[j]?).getD .non)) ≤ sumN (trimL z rows).length (fun i => eqr (trimL z rows) j i * X (((keep rows)[i]?).getD 0)) := fun j hj => by
    obtain ⟨s, e, r, l⟩ := keep_at hk hj
    rw [trim_left ok hk h.dead e, ← end_col, trim_end hk e]
    have := h.eq s r
    omega
  have sE := fun j : Nat => shE_nn (endOf (((trimL z rows)[j]?).getD .non))
  have sg := withR_sg (c := fun j => sumN (trimL z rows).length (fun i => eqr (trimL z rows) j i * X (((keep rows)[i]?).getD 0))) (eqr_sg (trimL z rows)) fun j hj => by
    have := left j hj
    have := Int.mul_nonneg (Int.le_of_lt h.D0) (sE j)
    omega
  have pp := piv_pos (n := (trimL z rows).length) (r := withR (trimL z rows).length (eqr (trimL z rows)) fun j => sumN (trimL z rows).length (fun i => eqr (trimL z rows) j i * X (((keep rows)[i]?).getD 0))) (X := fun i => X (((keep rows)[i]?).getD 0)) (D := 1) sg ?_ ?_ (by decide) (fun q hq => ?_) (fun t ht => ?_) (trimL z rows).length (Nat.le_refl _)
  · intro m hm
    have := pp m hm
    rwa [withR_dk hm] at this
  · intro U hU h1 h2
    refine lv U hU (fun t ht ut j hj nj => ?_) fun t ht ut => ?_
    · have := h1 t ht ut j hj nj
      unfold withR at this
      rwa [if_neg (by omega)] at this
    · have := h2 t ht ut
      unfold withR at this
      rw [if_pos rfl] at this
      have h3 : sumN (trimL z rows).length (fun i => eqr (trimL z rows) t i * X (((keep rows)[i]?).getD 0)) = 0 := this
      have g := left t ht
      rw [h3] at g
      rw [end_col]
      have := sE t
      refine Classical.byContradiction fun c => ?_
      have := Int.mul_pos h.D0 (show 0 < shE (endOf (((trimL z rows)[t]?).getD .non)) by omega)
      omega
  · intro i t hi ht
    unfold withR
    rw [if_neg (by omega)]
    exact eqr_id (trimL z rows) i t hi ht
  · obtain ⟨s, e, r, l⟩ := keep_at hk hq
    rw [e]
    exact h.nn s r
  · rw [withR_Lf]; omega
/-- just what the rows tell: the total is X 0 / D -/
theorem RSol.total (h : RSol rows X D) (ok : MOk z rows) : PosR (trimL z rows) ∧ dk (eqr (trimL z rows)) (trimL z rows).length * X 0 = D * Yk (eqr (trimL z rows)) (trimL z rows).length 0 (trimL z rows).length := by
  refine ⟨h.sup.bounded ok, ?_⟩
  by_cases hk : keep rows = []
  · rw [bare_trim hk, bare_Y, h.dead 0 (Rc.rfl' rows 0) (no_keep ok.n1 hk), Int.mul_zero, Int.mul_zero]
  have n1 := (trimL_ok ok).n1
  have so : ∀ j, j < (trimL z rows).length → Lf (trimL z rows).length (fun i => X (((keep rows)[i]?).getD 0)) D (eqr (trimL z rows) j) = 0 := fun j hj => by
    obtain ⟨s, e, r, l⟩ := keep_at hk hj
    unfold Lf
    rw [trim_left ok hk h.dead e, trim_end hk e]
    have := h.eq s r
    omega
  have := one_sol so (q := 0) (by omega)
  rw [keep_first ok.n1 (keep_ne ok.n1 hk)] at this
  exact this
/-- bounded sums: there are such values -/
theorem RSol.of (ok : MOk z rows) (hp : PosR (trimL z rows)) : ∃ X, RSol rows X (dk (eqr (trimL z rows)) (trimL z rows).length) ∧ X 0 = Yk (eqr (trimL z rows)) (trimL z rows).length 0 (trimL z rows).length := by
  have d0 := hp _ (Nat.le_refl _)
  have deadEq : ∀ {Y : Nat → Int}, (∀ s, ¬ s ∈ keep rows → Y s = 0) → ∀ s, Rc rows 0 s → ¬ lvE rows s → vS Y (stS rows s) + dk (eqr (trimL z rows)) (trimL z rows).length * shE (enS rows s) = 2 ^ 60 * Y s := fun {Y} hY s r nl => by
    have e1 : vS Y (stS rows s) = vS (fun _ => 0) (stS rows s) := vS_congr fun m t k => hY _ fun mk => nl (lvE_head (st_nx ok k) (mem_keep.mp mk).2.2)
    have e2 : vS (fun _ => 0) (stS rows s) = 0 := by
      have := vS_mul (fun _ => 0) 0 (stS rows s)
      simpa using this
    have e3 : shE (enS rows s) = 0 := by
      refine Classical.byContradiction fun c => nl (isEnd_lvE ?_)
      intro h
      exact c (by show shE (endOf ((rows[s]?).getD .non)) = 0; rw [h]; rfl)
    rw [e1, e2, e3, hY s fun mk => nl (mem_keep.mp mk).2.2]
    omega
  by_cases hk : keep rows = []
  · refine ⟨fun _ => 0, ⟨d0, fun _ _ => Int.le_refl _, fun _ _ _ => rfl, fun s r => deadEq (Y := fun _ => 0) (fun _ _ => rfl) s r fun l => ?_⟩, by rw [bare_trim hk, bare_Y]⟩
    have : s ∈ keep rows := mem_keep.mpr ⟨ok.rc_lt ok.n1 r, r, l⟩
    rw [hk] at this; cases this
  have gX : ∀ s j, (keep rows)[j]? = some s → (if s ∈ keep rows then Yk (eqr (trimL z rows)) (trimL z rows).length ((keep rows).idxOf s) (trimL z rows).length else 0) = Yk (eqr (trimL z rows)) (trimL z rows).length j (trimL z rows).length := fun s j e => by rw [if_pos (List.mem_of_getElem? e), keep_idx e]
  have gD : ∀ s, ¬ s ∈ keep rows → (if s ∈ keep rows then Yk (eqr (trimL z rows)) (trimL z rows).length ((keep rows).idxOf s) (trimL z rows).length else 0) = 0 := fun s h => if_neg h
  have g0 := gX 0 0 (keep_first ok.n1 (keep_ne ok.n1 hk))
  generalize hX : (fun s => if s ∈ keep rows then Yk (eqr (trimL z rows)) (trimL z rows).length ((keep rows).idxOf s) (trimL z rows).length else 0) = X at *
  have xs : ∀ s, (if s ∈ keep rows then Yk (eqr (trimL z rows)) (trimL z rows).length ((keep rows).idxOf s) (trimL z rows).length else 0) = X s := fun s => congrFun hX s
  simp only [xs] at gX gD g0
  have dead : ∀ s, Rc rows 0 s → ¬ lvE rows s → X s = 0 := fun s r nl => gD s fun mk => nl (mem_keep.mp mk).2.2
  refine ⟨X, ⟨d0, fun s r => ?_, dead, fun s r => ?_⟩, g0⟩
  · by_cases l : lvE rows s
    · have mk : s ∈ keep rows := mem_keep.mpr ⟨ok.rc_lt ok.n1 r, r, l⟩
      obtain ⟨j, hj, e⟩ := List.getElem_of_mem mk
      have e' : (keep rows)[j]? = some s := by rw [← e]; exact List.getElem?_eq_getElem hj
      rw [gX s j e']
      exact wos_nn hp (by rw [trimL_len hk]; exact hj)
    · rw [dead s r l]; exact Int.le_refl _
  · by_cases l : lvE rows s
    · have mk : s ∈ keep rows := mem_keep.mpr ⟨ok.rc_lt ok.n1 r, r, l⟩
      obtain ⟨j, hj, e⟩ := List.getElem_of_mem mk
      have e' : (keep rows)[j]? = some s := by rw [← e]; exact List.getElem?_eq_getElem hj
      have ts := the_sol (r := eqr (trimL z rows)) (n := (trimL z rows).length) (fun m hm => by have := hp m hm; omega) (t := j) (by rw [trimL_len hk]; exact hj)
      unfold Lf at ts
      rw [trim_end hk e', sumN_congr (g := fun i => eqr (trimL z rows) j i * X (((keep rows)[i]?).getD 0)) fun i hi => by
        obtain ⟨s2, e2, _⟩ := keep_at hk hi
        rw [e2]
        show _ = _ * X s2
        rw [gX s2 i e2], trim_left ok hk dead e'] at ts
      omega
    · exact deadEq gD s r l
end
theorem frT_eq {a b c e : Int} (hb : 0 < b) (he : 0 < e) (x : e * a = b * c) : frT a b = frT c e := by
  obtain ⟨h1, h2, _⟩ := low_eq (a := a) (b := b) (c := c) (e := e) (s := ((Nat.gcd c.natAbs e.natAbs : Nat) : Int)) hb (by omega) x (by rw [if_neg (by omega)])
  show Th.tup [.int _, .int _] = Th.tup [.int _, .int _]
  unfold lowT
  rw [h1, h2]
end KL
end
section
namespace KL
open PySem PySem.Spec PyProof.Rows L2
/-! ### a set that is closed in rounds -/
def dcnt (n : Nat) (l : List Nat) : Nat := ((List.range n).filter fun x => decide (x ∈ l)).length
theorem filt_le {p q : Nat → Bool} : ∀ l : List Nat, (∀ x ∈ l, p x = true → q x = true) → (l.filter p).length ≤ (l.filter q).length
  | [], _ => Nat.le_refl _
  | a :: l, h => by
    have ih := filt_le (p := p) (q := q) l (fun x m => h x (List.mem_cons_of_mem _ m))
    rw [List.filter_cons, List.filter_cons]
    by_cases hp : p a = true
    · rw [if_pos hp, if_pos (h a List.mem_cons_self hp)]
      simp only [List.length_cons]
      omega
    · rw [if_neg hp]
      split
      · simp only [List.length_cons]; omega
      · exact ih
theorem filt_lt {p q : Nat → Bool} {u : Nat} : ∀ l : List Nat, (∀ x ∈ l, p x = true → q x = true) → u ∈ l → p u = false → q u = true → (l.filter p).length + 1 ≤ (l.filter q).length
  | a :: l, h, mu, hp, hq => by
    rw [List.filter_cons, List.filter_cons]
    rcases List.mem_cons.mp mu with rfl | mu
    · have := filt_le (p := p) (q := q) l (fun x m => h x (List.mem_cons_of_mem _ m))
      rw [if_neg (by rw [hp]; exact Bool.false_ne_true), if_pos hq]
      simp only [List.length_cons]
      omega
    · have ih := filt_lt (p := p) (q := q) l (fun x m => h x (List.mem_cons_of_mem _ m)) mu hp hq
      by_cases hpa : p a = true
      · rw [if_pos hpa, if_pos (h a List.mem_cons_self hpa)]
        simp only [List.length_cons]
        omega
      · rw [if_neg hpa]
        split
        · simp only [List.length_cons]; omega
        · exact ih
theorem dcnt_le (n : Nat) (l : List Nat) : dcnt n l ≤ n := by
  have := List.length_filter_le (fun x => decide (x ∈ l)) (List.range n)
  rw [List.length_range] at this
  exact this
theorem dcnt_mono {n : Nat} {l k : List Nat} (h : ∀ x ∈ l, x ∈ k) : dcnt n l ≤ dcnt n k := filt_le _ fun x _ e => decide_eq_true (h x (of_decide_eq_true e))
theorem dcnt_lt {n u : Nat} {l k : List Nat} (h : ∀ x ∈ l, x ∈ k) (hu : u < n) (h0 : u ∉ l) (h1 : u ∈ k) : dcnt n l + 1 ≤ dcnt n k :=
  filt_lt (u := u) _ (fun x _ e => decide_eq_true (h x (of_decide_eq_true e))) (List.mem_range.mpr hu) (decide_eq_false h0) (decide_eq_true h1)
def Clo (ways : List (List Nat)) (l : List Nat) : Prop := ∀ x ∈ l, ∀ t ∈ (ways[x]?).getD [], t ∈ l
/-- what is known of the states that one comes to -/
structure KR (ways : List (List Nat)) (b i : Nat) (l : List Nat) : Prop where
  ms : ∀ t ∈ (ways[b]?).getD [], t ∈ l
  snd : ∀ x ∈ l, RS ways ((ways[b]?).getD []) x
  len : l.length ≤ 8 * (dcnt ways.length l + 1)
  pr : Clo ways l ∨ i + 1 ≤ dcnt ways.length l
/-- within a round over the list k0 -/
structure KRj (ways : List (List Nat)) (b j : Nat) (k0 l : List Nat) : Prop where
  sub : ∀ x ∈ k0, x ∈ l
  snd : ∀ x ∈ l, RS ways ((ways[b]?).getD []) x
  len : l.length ≤ 8 * (dcnt ways.length l + 1)
  new : ∀ x ∈ l, x ∈ k0 ∨ ∃ s ∈ k0, x ∈ (ways[s]?).getD []
  dn : ∀ s ∈ k0.take j, ∀ t ∈ (ways[s]?).getD [], t ∈ l
section
variable {ways : List (List Nat)} {b i j s : Nat} {k0 l more : List Nat}
theorem KR.zero (hl : ∀ (x : Nat) (ws : List Nat), ways[x]? = some ws → ∀ t ∈ ws, t < ways.length) (h8 : ((ways[b]?).getD []).length ≤ 8) : KR ways b 0 ((ways[b]?).getD []) where
  ms := fun t m => m
  snd := fun x m => .base m
  len := by omega
  pr := by
    cases e : (ways[b]?).getD [] with
    | nil => exact .inl fun x h => nomatch h
    | cons a r =>
      right
      have hlt : a < ways.length := by
        cases e2 : ways[b]? with
        | none => rw [e2] at e; cases e
        | some ws =>
          rw [e2] at e
          exact hl b ws e2 a (by rw [show ws = a :: r from e]; exact List.mem_cons_self)
      have := dcnt_lt (n := ways.length) (u := a) (l := []) (k := a :: r) (fun x h => nomatch h) hlt (by simp) List.mem_cons_self
      omega
theorem KR.start (h : KR ways b i l) : KRj ways b 0 l l := ⟨fun x m => m, h.snd, h.len, fun x m => .inl m, fun s m => by rw [List.take_zero] at m; cases m⟩
theorem KRj.step (h : KRj ways b j k0 l) (es : k0[j]? = some s) (h8 : more.length ≤ 8) (hm : ∀ x, x ∈ more ↔ x ∈ (ways[s]?).getD [] ∧ x ∉ l) (hl : ∀ t ∈ (ways[s]?).getD [], t < ways.length) : KRj ways b (j + 1) k0 (l ++ more) where
  sub := fun x m => List.mem_append_left _ (h.sub x m)
  snd := fun x m => by
    rcases List.mem_append.mp m with m | m
    · exact h.snd x m
    · exact .step (h.snd s (h.sub s (List.mem_of_getElem? es))) ((hm x).mp m).1
  len := by
    rw [List.length_append]
    have h1 := h.len
    cases em : more with
    | nil =>
      rw [List.append_nil]
      simp only [List.length_nil]
      omega
    | cons u r =>
      have mu : u ∈ more := by rw [em]; exact List.mem_cons_self
      have h2 := dcnt_lt (n := ways.length) (u := u) (l := l) (k := l ++ (u :: r)) (fun x m => List.mem_append_left _ m) (hl u ((hm u).mp mu).1) ((hm u).mp mu).2 (List.mem_append_right _ List.mem_cons_self)
      rw [em] at h8
      omega
  new := fun x m => by
    rcases List.mem_append.mp m with m | m
    · exact h.new x m
    · exact .inr ⟨s, List.mem_of_getElem? es, ((hm x).mp m).1⟩
  dn := fun y m t mt => by
    rw [List.take_add_one, es] at m
    rcases List.mem_append.mp m with m | m
    · exact List.mem_append_left _ (h.dn y m t mt)
    · have e : y = s := by simpa using m
      subst e
      by_cases q : t ∈ l
      · exact List.mem_append_left _ q
      · exact List.mem_append_right _ ((hm t).mpr ⟨mt, q⟩)
theorem KRj.done (h0 : KR ways b i k0) (h : KRj ways b k0.length k0 l) (hl : ∀ (x : Nat) (ws : List Nat), ways[x]? = some ws → ∀ t ∈ ws, t < ways.length) : KR ways b (i + 1) l where
  ms := fun t m => h.sub t (h0.ms t m)
  snd := h.snd
  len := h.len
  pr := by
    have dn := h.dn
    rw [List.take_length] at dn
    by_cases hc : Clo ways k0
    · refine .inl fun x m t mt => ?_
      have mk : x ∈ k0 := by
        rcases h.new x m with q | ⟨s, ms, q⟩
        · exact q
        · exact hc s ms x q
      exact h.sub t (hc x mk t mt)
    · have hd : i + 1 ≤ dcnt ways.length k0 := by
        rcases h0.pr with q | q
        · exact absurd q hc
        · exact q
      have ⟨s, ms, t, mt, nt⟩ : ∃ s, s ∈ k0 ∧ ∃ t, t ∈ (ways[s]?).getD [] ∧ t ∉ k0 := by
        by_cases q : ∃ s, s ∈ k0 ∧ ∃ t, t ∈ (ways[s]?).getD [] ∧ t ∉ k0
        · exact q
        · refine absurd (fun x m t mt => ?_) hc
          by_cases r : t ∈ k0
          · exact r
          · exact absurd ⟨x, m, t, mt, r⟩ q
      have hlt : t < ways.length := by
        cases e2 : ways[s]? with
        | none => rw [e2] at mt; cases mt
        | some ws =>
          rw [e2] at mt
          exact hl s ws e2 t mt
      have := dcnt_lt (n := ways.length) (u := t) (l := k0) (k := l) h.sub hlt nt (dn s ms t mt)
      exact .inr (by omega)
theorem KR.fin (h : KR ways b ways.length l) (x : Nat) : x ∈ l ↔ RS ways ((ways[b]?).getD []) x := by
  have hc : Clo ways l := by
    rcases h.pr with q | q
    · exact q
    · have := dcnt_le ways.length l
      omega
  refine ⟨h.snd x, fun r => ?_⟩
  induction r with
  | base m => exact h.ms _ m
  | step r m ih => exact hc _ ih _ m
end
end KL
end
section
namespace KL
open PySem PySem.Spec PyProof.Rows L2
/-! ### classes of the program -/
/-- a method of the class at C, as the top has left it -/
structure MDef (K : PySem.W.Frag) (C : Addr) (m q : Str) (st : Stmt) (ps : List Str) : Prop where
  ex : ∃ f fd, Fun K m q st f fd ∧ Meth K C m f ∧ Binds K fd ps []
structure IDef (K : PySem.W.Frag) (mg : Str → Option Value) (x : Str) (C : Addr) (q : Str) (st : Stmt) (ps : List Str) : Prop where
  ex : ∃ f fd, Fun K "__init__" q st f fd ∧ Mk K C f ∧ Binds K fd ps [] ∧ mg x = some (.ref C)
structure MCal (P : Program) (w : World) (K : PySem.W.Frag) (mg : Str → Option Value) (base : Heap) (CX : CXT) (k : Nat) (C : Addr) (m : Str) (ps : List Str) (sp : Sp) : Prop where
  cl : Cls K C
  ex : ∃ f fd, FnOk P w K mg base CX k f fd ps sp ∧ Meth K C m f ∧ Binds K fd ps []
structure ICal (P : Program) (w : World) (K : PySem.W.Frag) (mg : Str → Option Value) (base : Heap) (CX : CXT) (k : Nat) (x : Str) (C : Addr) (ps : List Str) (sp : Sp) : Prop where
  ex : ∃ f fd, FnOk P w K mg base CX k f fd ps sp ∧ Mk K C f ∧ Binds K fd ps [] ∧ mg x = some (.ref C)
section
variable {P : Program} {w : World} {K : PySem.W.Frag} {mg : Str → Option Value} {base : Heap} {CX : CXT} {C : Addr}
theorem MCal.mono {j k : Nat} {m : Str} {ps : List Str} {sp : Sp} (c : MCal P w K mg base CX j C m ps sp) (h : j ≤ k) : MCal P w K mg base CX k C m ps sp :=
  ⟨c.cl, let ⟨f, fd, F, r⟩ := c.ex; ⟨f, fd, F.mono h, r⟩⟩
theorem ICal.mono {j k : Nat} {x : Str} {ps : List Str} {sp : Sp} (c : ICal P w K mg base CX j x C ps sp) (h : j ≤ k) : ICal P w K mg base CX k x C ps sp :=
  let ⟨f, fd, F, r⟩ := c.ex; ⟨f, fd, F.mono h, r⟩
theorem MDef.ok {m q : Str} {st : Stmt} {N ps : List Str} {k : Nat} {sp : Sp} (cl : Cls K C) (d : MDef K C m q st ps) (S : FnScope N ps (defScope st)) (len : ∀ vs H Q E, sp vs H Q E → vs.length = ps.length)
    (body : ∀ (f : Addr) (cdv : Value) (A : Around) (outer : List Env) (s : Shared) (H : Hp) (vs : List V) (Q : VK) (E : XK), Room k (A.deeper (envOfC q (defScope st) s.heap.objs.size f cdv)) → sp vs H Q E →
      ∃ t, PSs (cxOf CX0 P w K mg base N q (defScope st) f cdv A outer s H E).nox (defBody st) t ∧ t { nx := fun _ H' => Q .non H', rt := Q } (L2.start N vs) H) : MCal P w K mg base CX0 (k + 1) C m ps sp := by
  obtain ⟨f, fd, F, m, b⟩ := d.ex
  exact ⟨cl, f, fd, F.ok S len (body f), m, b⟩
theorem MDef.okX {m q : Str} {st : Stmt} {N ps : List Str} {k : Nat} {sp : Sp} (cl : Cls K C) (d : MDef K C m q st ps) (S : FnScope N ps (defScope st)) (len : ∀ vs H Q E, sp vs H Q E → vs.length = ps.length)
    (body : ∀ (f : Addr) (cdv : Value) (A : Around) (outer : List Env) (s : Shared) (H : Hp) (vs : List V) (Q : VK) (E : XK), Room k (A.deeper (envOfC q (defScope st) s.heap.objs.size f cdv)) → sp vs H Q E →
      ∃ t, PSs (cxOf (L2.CX P w) P w K mg base N q (defScope st) f cdv A outer s H E) (defBody st) t ∧ t { nx := fun _ H' => Q .non H', rt := Q } (L2.start N vs) H) : MCal P w K mg base (L2.CX P w) (k + 1) C m ps sp := by
  obtain ⟨f, fd, F, m, b⟩ := d.ex
  exact ⟨cl, f, fd, F.okX S len (body f), m, b⟩
theorem IDef.ok {x q : Str} {st : Stmt} {N ps : List Str} {k : Nat} {sp : Sp} (d : IDef K mg x C q st ps) (S : FnScope N ps (defScope st)) (len : ∀ vs H Q E, sp vs H Q E → vs.length = ps.length)
    (body : ∀ (f : Addr) (cdv : Value) (A : Around) (outer : List Env) (s : Shared) (H : Hp) (vs : List V) (Q : VK) (E : XK), Room k (A.deeper (envOfC q (defScope st) s.heap.objs.size f cdv)) → sp vs H Q E →
      ∃ t, PSs (cxOf CX0 P w K mg base N q (defScope st) f cdv A outer s H E).nox (defBody st) t ∧ t { nx := fun _ H' => Q .non H', rt := Q } (L2.start N vs) H) : ICal P w K mg base CX0 (k + 1) x C ps sp := by
  obtain ⟨f, fd, F, m, b⟩ := d.ex
  exact ⟨f, fd, F.ok S len (body f), m, b⟩
theorem IDef.okX {x q : Str} {st : Stmt} {N ps : List Str} {k : Nat} {sp : Sp} (d : IDef K mg x C q st ps) (S : FnScope N ps (defScope st)) (len : ∀ vs H Q E, sp vs H Q E → vs.length = ps.length)
    (body : ∀ (f : Addr) (cdv : Value) (A : Around) (outer : List Env) (s : Shared) (H : Hp) (vs : List V) (Q : VK) (E : XK), Room k (A.deeper (envOfC q (defScope st) s.heap.objs.size f cdv)) → sp vs H Q E →
      ∃ t, PSs (cxOf (L2.CX P w) P w K mg base N q (defScope st) f cdv A outer s H E) (defBody st) t ∧ t { nx := fun _ H' => Q .non H', rt := Q } (L2.start N vs) H) : ICal P w K mg base (L2.CX P w) (k + 1) x C ps sp := by
  obtain ⟨f, fd, F, m, b⟩ := d.ex
  exact ⟨f, fd, F.okX S len (body f), m, b⟩
end
section
variable {X : Cx} {k : Nat} {C : Addr} {x m : Str} {ps : List Str} {sp : Sp} {o e : Expr} {es : List Expr} {ta : TE} {t : TA} {p apos pos : Pos} {CX : CXT}
theorem pe_mcal {pl : Sem Bool} (c : MCal X.prog X.w X.K X.mg X.base CX0 k C m ps sp) (hr : Room k X.A) (he : PE X o ta) (ha : PA X (e :: es) t)
    (hst : starEach (e :: es) X.env = (false, eval e X.env) :: starEach es X.env := by rfl) (hpl : (backTo pos (starEach es X.env)).any (·.1) = false := by rfl)
    (ht : eval (.Call (.Attribute o m apos) (e :: es) [] pos) X.env = (eval o X.env >>= fun ov => standAt apos.atName >>= fun _ => holding [ov] (getMethod ov m pl) >>= fun q => callWith pos q.1 q.2 (backTo pos (starEach (e :: es) X.env)) (backToKw pos (keywordEach [] X.env))) := by rfl) :
    PE X (.Call (.Attribute o m apos) (e :: es) [] pos) (tMeth C m sp [] E0 ta t) :=
  let ⟨_, _, F, mm, b⟩ := c.ex
  pe_meth (pl := pl) he c.cl mm F hr b .nil pass0 ha hst hpl ht
theorem pe_mcal0 {pl : Sem Bool} (c : MCal X.prog X.w X.K X.mg X.base CX0 k C m ps sp) (hr : Room k X.A) (he : PE X o ta)
    (ht : eval (.Call (.Attribute o m apos) [] [] pos) X.env = (eval o X.env >>= fun ov => standAt apos.atName >>= fun _ => holding [ov] (getMethod ov m pl) >>= fun q => callWith pos q.1 q.2 [] []) := by rfl) :
    PE X (.Call (.Attribute o m apos) [] [] pos) (tMeth C m sp [] E0 ta tNil) :=
  let ⟨_, _, F, mm, b⟩ := c.ex
  pe_meth0 (pl := pl) he c.cl mm F hr b .nil pass0 ht
theorem pe_kcal (c : ICal X.prog X.w X.K X.mg X.base CX0 k x C ps sp) (hr : Room (k + 1) X.A) (hg : Gl X x) (ha : PA X (e :: es) t) (hdb : (x == ("__debug__" : Str)) = false := by decide)
    (he : starEach (e :: es) X.env = (false, eval e X.env) :: starEach es X.env := by rfl) (hpl : (backTo pos (starEach es X.env)).any (·.1) = false := by rfl) :
    PE X (.Call (.Name x p) (e :: es) [] pos) (tMake C sp [] E0 t) :=
  let ⟨_, _, F, M, b, g⟩ := c.ex
  pe_make M F hr hg g b .nil pass0 ha hdb he hpl
end
theorem tC_ite {c : Bool} {v w : V} {σ : L2.St} {H : Hp} {Q : VK} (h : Q (if c = true then v else w) H) : if c = true then tC v σ H Q else tC w σ H Q := by cases c <;> exact h
end KL
end
section
namespace KL
open PySem PySem.Spec PyProof.Rows L2
/-! ### for (k, v) in d.items(), the keys being tuples -/
/-- each turn: a new pair of the key's own tuple and of the value -/
def ItiT (d : Addr) (o : Obj) (kvs : List (List Key × V)) : It :=
  ⟨fun i H => H d = some (.frz o (.dT kvs)) ∧ i < kvs.length, fun i H x H' => ∃ T q k v, kvs[i]? = some (k, v) ∧ H q = some (.tup (k.map kV)) ∧ x = .ref T ∧ H T = none ∧ H' = upd H T (.tup [.ref q, v]), fun i H => H d = some (.frz o (.dT kvs)) ∧ kvs.length ≤ i⟩
section
variable {X : Cx} {pins : List (Addr × Obj)} {σ : L2.St} {H : Hp} {s : Shared} {d : Addr} {o : Obj}
/-- the locked dict's entries as they lie -/
theorem entT {kvs : List (List Key × V)} (I : Inv X pins σ H s) (h : H d = some (.frz o (.dT kvs))) : (d == sysModules) = false ∧ ∃ (es : Array DictEntry) (ep : Nat), s.heap.get? d = some o ∧ o.ExactDict ∧ o.data = .dict es ep ∧ es.size = kvs.length ∧
    ∀ (i : Nat) (k : List Key) (v : V), kvs[i]? = some (k, v) → ∃ (hi : i < es.size) (q : Addr), es[i].key = .ref q ∧ H q = some (.tup (k.map kV)) ∧ RelV v es[i].val := by
  obtain ⟨g0, z, hs, xs, pr, o', es, ep, ho, hx, hdt, he, _⟩ := I.hok d _ h
  rw [g0] at ho; cases ho
  have l1 : es.size = xs.length := size_of_entries he
  have l2 : kvs.length = xs.length := Paired.length pr
  refine ⟨hs, es, ep, g0, hx, hdt, by omega, fun i k v e => ?_⟩
  obtain ⟨b, hb, e1, e2, e3⟩ := L2.paired_get pr e
  have hi : i < es.size := by have := (List.getElem?_eq_some_iff.mp e).1; omega
  have q := entry_at he i
  rw [hb, Array.getElem?_eq_getElem hi] at q
  have q' := Option.some.inj q
  exact ⟨hi, b.2.1, by rw [q']; rfl, e2, by rw [q']; exact e3⟩
end
section
variable {P : Program} {w : World} {K : PySem.W.Frag} {d : Addr} {o : Obj} {es : Array DictEntry} {ep : Nat}
theorem turn_itemsT {kvs : List (List Key × V)} {elts : List Expr} {kk : Nat} {tpos : Pos} (it : Addr) (hod : o.data = .dict es ep) :
    Turn P w K (.Tuple elts kk tpos) (ItiT d o kvs) [it] it (fun i h => ∃ ok ov, IsItemIter h it d i es.size ep ok ov) where
  mem := by simp
  obj := fun i h st b hb => by
    obtain ⟨ok, ov, e⟩ := st
    rw [show b = it by simpa using hb]
    exact ⟨_, e, fun v z => nomatch z⟩
  keep := fun i h h' ⟨ok, ov, e⟩ k => ⟨ok, ov, k it (by simp) _ e⟩
  item := by
    intro X hP hw hK hc i pins s σ H E I hf st hg
    subst hP hw hK
    obtain ⟨hd, hi⟩ := hg
    obtain ⟨hs, es', ep', g0, hx, hdt, hsz, ent⟩ := entT I hd
    obtain ⟨rfl, rfl⟩ := dict_ep hod hdt
    obtain ⟨⟨k, v⟩, hkv⟩ : ∃ p, kvs[i]? = some p := ⟨kvs[i], List.getElem?_eq_getElem hi⟩
    obtain ⟨hi', q, e1, e2, e3⟩ := ent i k v hkv
    obtain ⟨ok, ov, he⟩ := st
    have hlt : it < s.heap.objs.size := Heap.lt_size he
    refine wpAny_pyNext_items_item_raw he ⟨o, g0, hx, hdt⟩ hi' fun h' ho hT hz hk => ⟨_, rfl, wpAny_letOwnedTupleGo_items (s := { s with heap := h' }) ho fun h'' he' sb => ?_⟩
    have hT2 := (sb.2 _ (Nat.ne_of_gt hlt)).trans hT
    rw [e1] at hT2
    have new : ObjOk X.prog X.w (upd H s.heap.objs.size (.tup [.ref q, v])) h'' s.heap.objs.size (.tup [.ref q, v]) :=
      ⟨by show 2 ≤ sizeLine; decide, [.ref q, es'[i].val], .cons rfl (.cons e3 .nil), ⟨_, hT2, rfl, _, rfl⟩⟩
    have I1 : Inv X pins σ (upd H s.heap.objs.size (.tup [.ref q, v])) { s with heap := h'' } :=
      I.turnedNew (t' := s.toks) (ch := [it]) (fun b ob hb e => (sb.2 b (by simpa using hb)).trans (hk b ob (by simpa using hb) e)) hf (Nat.le_refl _) new
    refine ⟨.ref s.heap.objs.size, _, I1, rfl, ⟨_, q, k, v, hkv, e2, rfl, I.hok.fresh (Nat.le_refl _), rfl⟩, ⟨_, _, he'⟩, fun b hb => ?_⟩
    rw [show b = it by simpa using hb, upd_ne (Nat.ne_of_lt hlt)]
    exact (hf it (by simp)).1
  done := by
    intro X hP hw hK hc i pins s σ H E I hf st hg
    subst hP hw hK
    obtain ⟨hd, hi⟩ := hg
    obtain ⟨f0, f1, f2, f3, f4, f5⟩ := hf it (by simp)
    obtain ⟨hs, es', ep', g0, hx, hdt, hsz, ent⟩ := entT I hd
    obtain ⟨rfl, rfl⟩ := dict_ep hod hdt
    obtain ⟨ok, ov, he⟩ := st
    exact wpAny_pyNext_items_end_raw (I.ok.hd hc) he ⟨o, g0, hx, hdt⟩ (by omega) fun h' eb => ⟨rfl, I.turned (t' := s.toks) (fun b ob hb e => eb b ob hb e) f0 f1 f3 f4 f5⟩
  self := fun A i s Q E ⟨_, _, e⟩ h => PySem.W.kcp_self e h
end
def iItemsT (td : TE) : TI := fun σ H R => td σ H fun x H1 => ∃ d o kvs, x = .ref d ∧ H1 d = some (.frz o (.dT kvs)) ∧ R (ItiT d o kvs) H1
theorem pi_itemsT {X : Cx} {e : Expr} {td : TE} {apos cpos : Pos} {elts : List Expr} {kk : Nat} {tpos : Pos} (he : PE X e td) (hbase : attributeBase e "items" X.env (eval e X.env) = eval e X.env := by rfl) (hline : (apos.endLine == cpos.line) = true := by rfl) :
    PI X (.Tuple elts kk tpos) (.Call (.Attribute e "items" apos) [] [] cpos) (iItemsT td) := by
  refine ⟨fun pins s σ H R I h => ?_⟩
  refine wpAny_Call_method (T := "dict") (id := "dict.items") hbase rfl hline F.plainAttrs_dict F.slot_dict_items F.type_dict_items (thn (he.run pins s σ H _ I h) fun u s1 ⟨x, H1, I1, rx, d, o, kvs, ex, hd, q⟩ => ?_)
  subst ex
  obtain rfl : u = Value.ref d := rx
  obtain ⟨hs, es, ep, g0, hx, hdt, hsz, ent⟩ := entT I1 hd
  have rw0 : s1.heap.DictRaw d es ep := ⟨o, g0, hx, hdt⟩
  refine ⟨rw0.typeIs, fun a e => by cases e; exact ⟨o, g0, hx.2.1⟩, ?_⟩
  have I2 : Inv X pins σ H1 { s1 with heap := s1.heap.push { cls := .type "dict_items", data := .fields #[.ref d] } } := I1.kept (t' := s1.toks) fun b ob q => Heap.get?_push_of_some _ q
  have fin : wpAny (model X.prog X.w) X.A (pyIter (.ref s1.heap.objs.size)) (PIE X pins σ (.Tuple elts kk tpos) R) X.xe { s1 with heap := s1.heap.push { cls := .type "dict_items", data := .fields #[.ref d] } } :=
    wpAny_pyIter_items_raw (d := d) ⟨_, Heap.get?_push_size _ rfl, rfl, rfl⟩ (rw0.at fun ob z => Heap.get?_push_of_some _ z) (pi_one (tk := s1.toks) I2 _ (turn_itemsT _ hdt) ⟨.none, .none, Heap.get?_push_size _ rfl⟩ q)
  show wpAny _ _ (callWith cpos (.builtin "dict.items") [.ref d] [] []) _ X.xe s1
  exact method_meetsIn F.slot_dict_items F.entry_dict_items rfl (PySem.evalArgs_none ⟨rfl, rw0.typeIs, F.args_dict_items_1 _, _, meets_dict_items_raw d hs, ⟨es, ep, rw0⟩, fin⟩)
theorem walk_itemsT {d : Addr} {o : Obj} {kvs : List (List Key × V)} : Walk (ItiT d o kvs) kvs.length (fun H => H d = some (.frz o (.dT kvs)))
    (fun i H x H' => ∃ T q k v, kvs[i]? = some (k, v) ∧ H q = some (.tup (k.map kV)) ∧ x = .ref T ∧ H T = none ∧ H' = upd H T (.tup [.ref q, v])) :=
  ⟨fun _ _ hi q => ⟨q, hi⟩, fun _ q => ⟨q, Nat.le_refl _⟩, fun _ _ _ _ _ _ y => y⟩
end KL
end
section
set_option maxHeartbeats 1000000
namespace KL
open PySem PySem.Spec PyProof.Rows L2
/-! ### rings that take nothing, and how long texts are without -/
theorem rdT_go (rows : List Th) : ∀ (ls ks : List Th) (s b : Nat) (m m' : Int), rdT rows s m ls = (m', some b) → rdT rows s m (ls ++ ks) = rdT rows b m' ks
  | [], ks, s, b, m, m', h => by
    have h' : (m, some s) = (m', some b) := h
    injection h' with h1 h2
    injection h2 with h2
    rw [h1, h2]; rfl
  | l :: ls, ks, s, b, m, m', h => by
    rw [List.cons_append, rdT]
    rw [rdT] at h
    split at h
    · exact rdT_go rows ls ks _ b _ m' h
    · injection h with h1 h2; cases h2
theorem rdT_free (rows : List Th) : ∀ (ls : List Th) (s t : Nat) (m : Int), fwalk rows s ls = some t → rdT rows s m ls = (m, some t)
  | [], s, t, m, h => by rw [rdT, show s = t from Option.some.inj h]
  | l :: ls, s, t, m, h => by
    rw [fwalk] at h
    split at h
    · next d s' e =>
      split at h
      · next hd =>
        subst hd
        rw [rdT, e]
        show rdT rows s'.toNat (m + 0) ls = _
        rw [Int.add_zero]
        exact rdT_free rows ls _ _ m h
      · cases h
    · cases h
theorem fwalk_rep {rows : List Th} {s : Nat} {ls : List Th} (h : fwalk rows s ls = some s) (k : Int) : fwalk rows s (repV k ls) = some s := by
  unfold repV
  induction k.toNat with
  | zero => rfl
  | succ n ih => rw [List.replicate_succ, List.flatten_cons, fwalk_app rows _ _ s s h]; exact ih
theorem len_ring {rows : List Th} {s : Nat} {as bs ls : List Th} (ha : Led rows 0 as s) (h : fwalk rows s ls = some s) (k : Int) : lenT rows (as ++ repV k ls ++ bs) = lenT rows (as ++ bs) := by
  obtain ⟨m1, e⟩ : ∃ m1, rdT rows 0 0 as = (m1, some s) := ⟨(rdT rows 0 0 as).1, by
    have : (rdT rows 0 0 as).2 = some s := ha
    rw [← this]⟩
  unfold lenT
  rw [List.append_assoc, rdT_go rows as _ 0 s 0 m1 e, rdT_go rows as _ 0 s 0 m1 e, rdT_go rows (repV k ls) bs s s m1 m1 (rdT_free rows _ _ _ _ (fwalk_rep h k))]
theorem bound {z : Int} {rows : List Th} (ok : MOk z rows) (nf : ∀ s, s < rows.length → ¬ FR rows s s) : ∀ (ls : List Th) (s : Nat) (m : Int) (V : List Nat), V.Nodup → (∀ x ∈ V, x < rows.length) → (∀ x ∈ V, x = s ∨ FR rows x s) → ∀ (m' : Int) (t : Nat), rdT rows s m ls = (m', some t) →
    (ls.length : Int) + V.length ≤ rows.length * (m' - m + 1)
  | [], s, m, V, nd, hv, _, m', t, h => by
    have h' : (m, some s) = (m', some t) := h
    injection h' with h1 h2
    subst h1
    have := nd_len nd hv
    rw [Int.sub_self, Int.zero_add, Int.mul_one]
    show ((0 : Nat) : Int) + V.length ≤ rows.length
    omega
  | l :: ls, s, m, V, nd, hv, hr, m', t, h => by
    rw [rdT] at h
    have vl := nd_len nd hv
    have si := stepAt_is ok s (num l).toNat
    split at h
    · next d s' e =>
      rw [e] at si
      rcases si with si | ⟨d2, s2, e2, d0, _, s0, s1⟩
      · cases si
      · injection e2 with e2; injection e2 with e3 e2; injection e3 with e3; injection e2 with e2 _; injection e2 with e2
        subst e3 e2
        by_cases hd : d = 0
        · subst hd
          have mf := free_nx e
          have nin : s'.toNat ∉ V := fun mv => by
            rcases hr _ mv with h1 | h1
            · refine nf _ (hv _ mv) ?_
              rw [← h1] at mf
              exact .base mf
            · exact nf _ (hv _ mv) (.step h1 mf)
          have ih := bound ok nf ls s'.toNat (m + 0) (s'.toNat :: V) (List.nodup_cons.mpr ⟨nin, nd⟩) (fun x mx => by
            rcases List.mem_cons.mp mx with rfl | mx
            · omega
            · exact hv x mx) (fun x mx => by
            rcases List.mem_cons.mp mx with rfl | mx
            · exact .inl rfl
            · rcases hr x mx with h1 | h1
              · subst h1
                exact .inr (.base mf)
              · exact .inr (.step h1 mf)) m' t h
          rw [Int.add_zero, List.length_cons] at ih
          rw [List.length_cons]
          omega
        · have ih := bound ok nf ls s'.toNat (m + d) [s'.toNat] (by simp) (fun x mx => by rw [List.mem_singleton.mp mx]; omega) (fun x mx => .inl (List.mem_singleton.mp mx)) m' t h
          rw [List.length_singleton] at ih
          have e4 : (rows.length : Int) * (m' - m + 1) = rows.length * (m' - (m + d) + 1) + rows.length * d := by
            rw [← Int.mul_add]
            congr 1
            omega
          have e5 : (rows.length : Int) * 1 ≤ rows.length * d := Int.mul_le_mul_of_nonneg_left (by omega) (by omega)
          rw [e4, List.length_cons]
          omega
    · injection h with h1 h2; cases h2
theorem len_bound {z : Int} {rows : List Th} (ok : MOk z rows) (nf : ∀ s, s < rows.length → ¬ FR rows s s) {ls : List Th} {i : Int} (h : lenT rows ls = some i) : (ls.length : Int) ≤ rows.length * (i + 1) ∧ 0 ≤ i := by
  have n1 := ok.n1
  unfold lenT at h
  cases hR : rdT rows 0 0 ls with
  | mk m' so =>
    rw [hR] at h
    cases so with
    | none => cases h
    | some t =>
      have b := bound ok nf ls 0 0 [0] (by simp) (fun x mx => by rw [List.mem_singleton.mp mx]; omega) (fun x mx => .inl (List.mem_singleton.mp mx)) m' t hR
      have m0 : 0 ≤ m' := Classical.byContradiction fun n => by
        have : (rows.length : Int) * (m' - 0 + 1) ≤ rows.length * 0 := Int.mul_le_mul_of_nonneg_left (by omega) (by omega)
        rw [Int.mul_zero] at this
        rw [List.length_singleton] at b
        omega
      rw [lastT] at h
      have hlt : t < rows.length := by
        by_cases hh : t < rows.length
        · exact hh
        · rw [List.getElem?_eq_none (by omega)] at h
          cases h
      obtain ⟨x, ss, er, h1, h2, h3⟩ := ok.row hlt
      rw [er] at h
      rcases h1 with rfl | ⟨e, rfl, e1, e60⟩
      · cases h
      · have hi : some (m' + e) = some i := h
        have hi := Option.some.inj hi
        have e4 : (rows.length : Int) * (i + 1) = rows.length * (m' - 0 + 1) + rows.length * e := by
          rw [← Int.mul_add]
          congr 1
          omega
        have e5 : 0 ≤ (rows.length : Int) * e := Int.mul_nonneg (by omega) (by omega)
        rw [List.length_singleton] at b
        refine ⟨?_, by omega⟩
        rw [e4]
        omega
theorem keep_all8 {z : Int} {rows : List Th} (ok : MOk z rows) (h : lvE rows 0) : ∀ s, s < (trimL z rows).length → lv (trimL z rows) s := fun s hs => by
  have hk : keep rows ≠ [] := fun e => by
    have := keep_zero ok.n1 h
    rw [e] at this
    cases this
  have hl : (trimL z rows).length = (keep rows).length := by unfold trimL; rw [if_neg hk, List.length_map]
  have hm : s ∈ keep (trimL z rows) := by rw [keep_trim ok hk, List.mem_range, ← hl]; exact hs
  exact (mem_keep.mp hm).2
theorem ring_live {z : Int} {rows : List Th} (ok : MOk z rows) {s : Nat} (hs : s < (trimL z rows).length) (hf : FR (trimL z rows) s s) : lv (trimL z rows) s := by
  by_cases h : lvE rows 0
  · exact keep_all8 ok h s hs
  · have hk : keep rows = [] := Classical.byContradiction fun n => h (keep_ne ok.n1 n)
    have e : trimL z rows = [bareRow z] := by unfold trimL; rw [if_pos hk]
    rw [e] at hf
    have nil : ∀ i : Nat, ((fns [bareRow z])[i]?).getD [] = [] := fun i => by
      rw [fns_getD]
      have : ∀ n, fnr (.tup [.non, .tup (List.replicate n .non)]) = [] := fun n => by
        show (List.replicate n Th.non).filterMap freeT = []
        induction n with
        | zero => rfl
        | succ n ih => rw [List.replicate_succ, List.filterMap_cons]; exact ih
      cases i with
      | zero => exact this _
      | succ i => rfl
    exfalso
    cases hf with
    | base m => rw [nil] at m; cases m
    | step _ m => rw [nil] at m; cases m
end KL
end
section
set_option maxHeartbeats 1000000
namespace KL
open PySem PySem.Spec PyProof.Rows L2
/-! ### counting texts by their lengths -/
/-- a step in numbers: what it takes, where it leads -/
def stp (rows : List Th) (s l : Nat) : Option (Nat × Nat) := match stepAt rows s l with
  | .tup [.int m, .int t] => some (m.toNat, t.toNat)
  | _ => none
def finN (rows : List Th) (s : Nat) : Option Nat := match endOf ((rows[s]?).getD .non) with
  | .int e => some e.toNat
  | _ => none
/-- what a text takes from a state on -/
def lnN (rows : List Th) : Nat → List Nat → Option Nat
  | s, [] => finN rows s
  | s, l :: ls => match stp rows s l with
    | some (m, t) => (lnN rows t ls).map (m + ·)
    | none => none
/-- all texts of less than f letters, that take just b from the state s, in their order -/
def txF (rows : List Th) (z : Nat) : Nat → Nat → Nat → List (List Nat)
  | 0, _, _ => []
  | f + 1, b, s => (if finN rows s = some b then [[]] else []) ++ (List.range z).flatMap fun l => match stp rows s l with
    | some (m, t) => if m ≤ b then (txF rows z f (b - m) t).map (l :: ·) else []
    | none => []
theorem mem_txF {rows : List Th} {z : Nat} : ∀ (f b s : Nat) (ls : List Nat), ls ∈ txF rows z f b s ↔ ls.length < f ∧ (∀ l ∈ ls, l < z) ∧ lnN rows s ls = some b
  | 0, b, s, ls => by simp [txF]
  | f + 1, b, s, ls => by
    rw [txF, List.mem_append, List.mem_flatMap]
    constructor
    · rintro (h | ⟨l, hl, h⟩)
      · split at h
        · next e =>
          rw [List.mem_singleton.mp h]
          exact ⟨by simp, by simp, e⟩
        · cases h
      · rw [List.mem_range] at hl
        cases e : stp rows s l with
        | none => rw [e] at h; cases h
        | some q =>
          obtain ⟨m, t⟩ := q
          rw [e] at h
          dsimp only at h
          split at h
          · next hm =>
            obtain ⟨ks, hk, rfl⟩ := List.mem_map.mp h
            obtain ⟨h1, h2, h3⟩ := (mem_txF f (b - m) t ks).mp hk
            refine ⟨by rw [List.length_cons]; omega, fun x mx => ?_, ?_⟩
            · rcases List.mem_cons.mp mx with rfl | mx
              · exact hl
              · exact h2 x mx
            · rw [lnN, e]
              dsimp only
              rw [h3, Option.map_some]
              congr 1
              omega
          · cases h
    · rintro ⟨h1, h2, h3⟩
      cases ls with
      | nil => left; rw [if_pos (show finN rows s = some b from h3)]; simp
      | cons l ks =>
        right
        refine ⟨l, List.mem_range.mpr (h2 l List.mem_cons_self), ?_⟩
        rw [lnN] at h3
        cases e : stp rows s l with
        | none => rw [e] at h3; cases h3
        | some q =>
          obtain ⟨m, t⟩ := q
          rw [e] at h3
          dsimp only at h3 ⊢
          obtain ⟨c, hc, hb⟩ := Option.map_eq_some_iff.mp h3
          rw [if_pos (by omega)]
          refine List.mem_map.mpr ⟨ks, (mem_txF f (b - m) t ks).mpr ⟨by rw [List.length_cons] at h1; omega, fun x mx => h2 x (List.mem_cons_of_mem _ mx), ?_⟩, rfl⟩
          rw [hc]
          congr 1
          omega
/-- the order of tuples -/
def ltN : List Nat → List Nat → Prop
  | [], [] => False
  | [], _ :: _ => True
  | _ :: _, [] => False
  | x :: xs, y :: ys => x < y ∨ (x = y ∧ ltN xs ys)
theorem ltN_irr : ∀ xs : List Nat, ¬ ltN xs xs
  | [], h => h
  | x :: xs, h => by
    rcases h with h | ⟨_, h⟩
    · omega
    · exact ltN_irr xs h
theorem ltN_trans : ∀ {xs ys zs : List Nat}, ltN xs ys → ltN ys zs → ltN xs zs
  | [], [], _, h, _ => h.elim
  | [], _ :: _, [], _, h => h.elim
  | [], _ :: _, _ :: _, _, _ => trivial
  | _ :: _, [], _, h, _ => h.elim
  | _ :: _, _ :: _, [], _, h => h.elim
  | x :: xs, y :: ys, w :: ws, h, k => by
    rcases h with h | ⟨rfl, h⟩
    · rcases k with k | ⟨rfl, k⟩
      · exact .inl (by omega)
      · exact .inl h
    · rcases k with k | ⟨rfl, k⟩
      · exact .inl k
      · exact .inr ⟨rfl, ltN_trans h k⟩
theorem ltN_tri : ∀ xs ys : List Nat, ltN xs ys ∨ xs = ys ∨ ltN ys xs
  | [], [] => .inr (.inl rfl)
  | [], _ :: _ => .inl trivial
  | _ :: _, [] => .inr (.inr trivial)
  | x :: xs, y :: ys => by
    rcases Nat.lt_trichotomy x y with h | rfl | h
    · exact .inl (.inl h)
    · rcases ltN_tri xs ys with h | rfl | h
      · exact .inl (.inr ⟨rfl, h⟩)
      · exact .inr (.inl rfl)
      · exact .inr (.inr (.inr ⟨rfl, h⟩))
    · exact .inr (.inr (.inl h))
theorem pw_flat {α : Type} {R : α → α → Prop} : ∀ {n : Nat} (g : Nat → List α), (∀ l, l < n → (g l).Pairwise R) → (∀ l k, l < k → k < n → ∀ x ∈ g l, ∀ y ∈ g k, R x y) → ((List.range n).flatMap g).Pairwise R
  | 0, g, _, _ => by simp
  | n + 1, g, h1, h2 => by
    rw [List.range_succ, List.flatMap_append, List.pairwise_append]
    refine ⟨pw_flat g (fun l hl => h1 l (by omega)) (fun l k a b => h2 l k a (by omega)), by simpa using h1 n (by omega), fun x mx y my => ?_⟩
    obtain ⟨l, hl, hx⟩ := List.mem_flatMap.mp mx
    obtain ⟨k, hk, hy⟩ := List.mem_flatMap.mp my
    rw [List.mem_singleton] at hk
    subst hk
    exact h2 l k (List.mem_range.mp hl) (by omega) x hx y hy
theorem txF_sorted (rows : List Th) (z : Nat) : ∀ f b s : Nat, (txF rows z f b s).Pairwise ltN
  | 0, _, _ => List.Pairwise.nil
  | f + 1, b, s => by
    rw [txF, List.pairwise_append]
    refine ⟨by split <;> simp, pw_flat _ (fun l _ => ?_) (fun l k lk _ x mx y my => ?_), fun x mx y my => ?_⟩
    · cases stp rows s l with
      | none => exact List.Pairwise.nil
      | some q =>
        obtain ⟨m, t⟩ := q
        dsimp only
        split
        · exact List.Pairwise.map _ (fun a b h => .inr ⟨rfl, h⟩) (txF_sorted rows z f (b - m) t)
        · exact List.Pairwise.nil
    · have hd : ∀ {j : Nat} {w : List Nat}, w ∈ (match stp rows s j with | some (m, t) => if m ≤ b then (txF rows z f (b - m) t).map (j :: ·) else [] | none => []) → ∃ ws, w = j :: ws := by
        intro j w h
        cases e : stp rows s j with
        | none => rw [e] at h; cases h
        | some q =>
          obtain ⟨m, t⟩ := q
          rw [e] at h
          dsimp only at h
          split at h
          · obtain ⟨ws, _, rfl⟩ := List.mem_map.mp h
            exact ⟨ws, rfl⟩
          · cases h
      obtain ⟨xs, rfl⟩ := hd mx
      obtain ⟨ys, rfl⟩ := hd my
      exact .inl lk
    · have ex : x = [] := by
        split at mx
        · exact List.mem_singleton.mp mx
        · cases mx
      subst ex
      obtain ⟨l, _, hl⟩ := List.mem_flatMap.mp my
      cases e : stp rows s l with
      | none => rw [e] at hl; cases hl
      | some q =>
        obtain ⟨m, t⟩ := q
        rw [e] at hl
        dsimp only at hl
        split at hl
        · obtain ⟨ys, _, rfl⟩ := List.mem_map.mp hl
          trivial
        · cases hl
theorem sorted_eq : ∀ {xs ys : List (List Nat)}, xs.Pairwise ltN → ys.Pairwise ltN → (∀ x, x ∈ xs ↔ x ∈ ys) → xs = ys
  | [], [], _, _, _ => rfl
  | [], y :: ys, _, _, h => by have := (h y).mpr List.mem_cons_self; cases this
  | x :: xs, [], _, _, h => by have := (h x).mp List.mem_cons_self; cases this
  | x :: xs, y :: ys, h1, h2, h => by
    rw [List.pairwise_cons] at h1 h2
    have e : x = y := by
      rcases List.mem_cons.mp ((h x).mp List.mem_cons_self) with e | m
      · exact e
      · rcases List.mem_cons.mp ((h y).mpr List.mem_cons_self) with e | m'
        · exact e.symm
        · exact (ltN_irr x (ltN_trans (h1.1 y m') (h2.1 x m))).elim
    subst e
    have h' : ∀ w, w ∈ xs ↔ w ∈ ys := fun w => by
      constructor
      · intro m
        rcases List.mem_cons.mp ((h w).mp (List.mem_cons_of_mem _ m)) with rfl | m'
        · exact (ltN_irr w (h1.1 w m)).elim
        · exact m'
      · intro m
        rcases List.mem_cons.mp ((h w).mpr (List.mem_cons_of_mem _ m)) with rfl | m'
        · exact (ltN_irr w (h2.1 w m)).elim
        · exact m'
    rw [sorted_eq h1.2 h2.2 h']
theorem txF_stable {rows : List Th} {z f g b s : Nat} (hf : ∀ ls, (∀ l ∈ ls, l < z) → lnN rows s ls = some b → ls.length < f) (hg : ∀ ls, (∀ l ∈ ls, l < z) → lnN rows s ls = some b → ls.length < g) : txF rows z f b s = txF rows z g b s := by
  refine sorted_eq (txF_sorted rows z f b s) (txF_sorted rows z g b s) fun ls => ?_
  rw [mem_txF, mem_txF]
  constructor
  · rintro ⟨_, h2, h3⟩
    exact ⟨hg ls h2 h3, h2, h3⟩
  · rintro ⟨_, h2, h3⟩
    exact ⟨hf ls h2 h3, h2, h3⟩
/-! by the machine's own reading -/
def thN (ls : List Nat) : List Th := ls.map fun l => Th.int (l : Nat)
theorem rd_lnN {z : Int} {rows : List Th} (ok : MOk z rows) : ∀ (ls : List Nat) (s : Nat) (m : Int), lastT rows (rdT rows s m (thN ls)) = (lnN rows s ls).map fun b => m + (b : Nat)
  | [], s, m => by
    show lastT rows (m, some s) = _
    rw [lastT, lnN, finN]
    have h1 : ∀ x, x = endOf ((rows[s]?).getD .non) → (match x with | .int e => some (m + e) | _ => none) = (match x with | .int e => some e.toNat | _ => none : Option Nat).map fun b => m + (b : Nat) := by
      intro x ex
      have hx : x = .non ∨ ∃ e, x = .int e ∧ 1 ≤ e := by
        by_cases hs : s < rows.length
        · obtain ⟨e, ss, er, h1, _⟩ := ok.row hs
          rw [er] at ex
          rcases h1 with rfl | ⟨i, rfl, i1, _⟩
          · exact .inl ex
          · exact .inr ⟨i, ex, i1⟩
        · rw [List.getElem?_eq_none (by omega)] at ex
          exact .inl ex
      rcases hx with rfl | ⟨e, rfl, he⟩
      · rfl
      · show some (m + e) = some (m + ((e.toNat : Nat) : Int))
        rw [show ((e.toNat : Nat) : Int) = e by omega]
    exact h1 _ rfl
  | l :: ls, s, m => by
    show lastT rows (rdT rows s m (.int (l : Nat) :: thN ls)) = _
    rw [rdT, lnN, stp, show (num (.int (l : Nat))).toNat = l from Int.toNat_natCast l]
    rcases stepAt_is ok s l with e | ⟨d, t, e, d0, _, t0, _⟩
    · rw [e]; rfl
    · rw [e]
      show lastT rows (rdT rows t.toNat (m + d) (thN ls)) = ((lnN rows t.toNat ls).map (d.toNat + ·)).map _
      rw [rd_lnN ok ls t.toNat (m + d), Option.map_map]
      congr 1
      funext b
      show m + d + (b : Int) = m + ((d.toNat + b : Nat) : Int)
      omega
theorem lenT_lnN {z : Int} {rows : List Th} (ok : MOk z rows) (ls : List Nat) : lenT rows (thN ls) = (lnN rows 0 ls).map fun b => ((b : Nat) : Int) := by
  unfold lenT
  rw [rd_lnN ok]
  congr 1
  funext b
  omega
theorem thN_len (ls : List Nat) : (thN ls).length = ls.length := List.length_map _
/-- no ring of steps that take nothing -/
abbrev NoR (rows : List Th) : Prop := ∀ s, s < rows.length → ¬ FR rows s s
theorem lnN_bound {z : Int} {rows : List Th} (ok : MOk z rows) (nf : NoR rows) {s : Nat} {ls : List Nat} {b : Nat} (h : lnN rows s ls = some b) : ls.length ≤ rows.length * b := by
  have e := rd_lnN ok ls s 0
  rw [h, Option.map_some] at e
  generalize hr : rdT rows s 0 (thN ls) = q at e
  obtain ⟨m', so⟩ := q
  cases so with
  | none => cases e
  | some t =>
    have bd := bound ok nf (thN ls) s 0 [] List.nodup_nil (fun x h => nomatch h) (fun x h => nomatch h) m' t hr
    have hb : m' + 1 ≤ (b : Int) := by
      by_cases ht : t < rows.length
      · obtain ⟨en, ss, er, h1, _⟩ := ok.row ht
        rw [lastT, er] at e
        rcases h1 with rfl | ⟨i, rfl, i1, _⟩
        · cases e
        · have e' := Option.some.inj e
          omega
      · rw [lastT, List.getElem?_eq_none (by omega)] at e
        cases e
    rw [thN_len] at bd
    have : (rows.length : Int) * (m' - 0 + 1) ≤ (rows.length : Int) * (b : Int) := Int.mul_le_mul_of_nonneg_left (by omega) (by omega)
    have h3 : (ls.length : Int) ≤ ((rows.length * b : Nat) : Int) := by
      rw [Int.natCast_mul]
      have : ((([] : List Nat).length : Nat) : Int) = 0 := rfl
      omega
    omega
/-- all texts that take just b from s -/
def tx (rows : List Th) (z b s : Nat) : List (List Nat) := txF rows z (rows.length * b + 1) b s
def ctN (rows : List Th) (z b s : Nat) : Nat := (tx rows z b s).length
def cst (rows : List Th) (z b : Nat) : Option (Nat × Nat) → Nat
  | some (m, t) => if m ≤ b then ctN rows z (b - m) t else 0
  | none => 0
/-- the texts that begin with l -/
def txL (rows : List Th) (z b s l : Nat) : List (List Nat) := match stp rows s l with
  | some (m, t) => if m ≤ b then (tx rows z (b - m) t).map (l :: ·) else []
  | none => []
theorem mem_tx {zi : Int} {rows : List Th} (ok : MOk zi rows) (nf : NoR rows) {z b s : Nat} {ls : List Nat} : ls ∈ tx rows z b s ↔ (∀ l ∈ ls, l < z) ∧ lnN rows s ls = some b := by
  unfold tx
  rw [mem_txF]
  constructor
  · exact fun h => h.2
  · exact fun h => ⟨by have := lnN_bound ok nf h.2; omega, h⟩
theorem tx_sorted (rows : List Th) (z b s : Nat) : (tx rows z b s).Pairwise ltN := txF_sorted rows z _ b s
theorem tx_nodup (rows : List Th) (z b s : Nat) : (tx rows z b s).Nodup := (tx_sorted rows z b s).imp fun {x y} h (e : x = y) => ltN_irr y (by rw [e] at h; exact h)
theorem tx_rec {zi : Int} {rows : List Th} (ok : MOk zi rows) (nf : NoR rows) (z b s : Nat) : tx rows z b s = (if finN rows s = some b then [[]] else []) ++ (List.range z).flatMap (txL rows z b s) := by
  have e1 : tx rows z b s = txF rows z (rows.length * b + 2) b s := txF_stable (fun ls _ h => by have := lnN_bound ok nf h; omega) (fun ls _ h => by have := lnN_bound ok nf h; omega)
  rw [e1, txF]
  congr 1
  congr 1
  funext l
  unfold txL
  cases stp rows s l with
  | none => rfl
  | some q =>
    obtain ⟨m, t⟩ := q
    dsimp only
    split
    · next hm =>
      unfold tx
      congr 1
      exact txF_stable (fun ls _ h => by
        have := lnN_bound ok nf h
        have : rows.length * (b - m) ≤ rows.length * b := Nat.mul_le_mul_left _ (by omega)
        omega) (fun ls _ h => by have := lnN_bound ok nf h; omega)
    · rfl
theorem txL_len (rows : List Th) (z b s l : Nat) : (txL rows z b s l).length = cst rows z b (stp rows s l) := by
  unfold txL cst ctN
  cases stp rows s l with
  | none => rfl
  | some q =>
    obtain ⟨m, t⟩ := q
    dsimp only
    split
    · rw [List.length_map]
    · rfl
theorem cnt_rec {zi : Int} {rows : List Th} (ok : MOk zi rows) (nf : NoR rows) (z b s : Nat) : ctN rows z b s = (if finN rows s = some b then 1 else 0) + ((List.range z).map fun l => cst rows z b (stp rows s l)).sum := by
  unfold ctN
  rw [tx_rec ok nf, List.length_append, List.length_flatMap]
  congr 1
  · split <;> rfl
  · congr 1
    exact List.map_congr_left fun l _ => txL_len rows z b s l
/-- the texts that begin with letters from l on, with the text that ends here, where k is told -/
theorem flat_get {α : Type} (g : Nat → List α) : ∀ (n l p : Nat), l ≤ n → ((List.range n).flatMap g)[((List.range l).flatMap g).length + p]? = ((List.range' l (n - l)).flatMap g)[p]? := by
  intro n l p h
  rw [show List.range n = List.range l ++ List.range' l (n - l) by
    rw [List.range_eq_range', List.range_eq_range', show List.range' 0 n = List.range' 0 (l + (n - l)) by rw [show l + (n - l) = n by omega], ← List.range'_append_1, Nat.zero_add], List.flatMap_append, List.getElem?_append_right (by omega)]
  congr 1
  omega
/-- the index of a text -/
def plc (rows : List Th) (z : Nat) : Nat → Nat → List Nat → Nat
  | _, _, [] => 0
  | b, s, l :: ls => (if finN rows s = some b then 1 else 0) + ((List.range l).map fun k => cst rows z b (stp rows s k)).sum + match stp rows s l with
    | some (m, t) => plc rows z (b - m) t ls
    | none => 0
theorem tx_get {zi : Int} {rows : List Th} (ok : MOk zi rows) (nf : NoR rows) {z : Nat} : ∀ (ls : List Nat) (b s : Nat), (∀ l ∈ ls, l < z) → lnN rows s ls = some b → (tx rows z b s)[plc rows z b s ls]? = some ls
  | [], b, s, _, h => by
    rw [tx_rec ok nf, plc, if_pos (show finN rows s = some b from h)]
    rfl
  | l :: ls, b, s, hl, h => by
    have h1 : l < z := hl l List.mem_cons_self
    rw [lnN] at h
    rw [plc]
    cases e : stp rows s l with
    | none => rw [e] at h; cases h
    | some q =>
      obtain ⟨m, t⟩ := q
      rw [e] at h
      dsimp only at h ⊢
      obtain ⟨c, hc, hb⟩ := Option.map_eq_some_iff.mp h
      have ih := tx_get ok nf ls (b - m) t (fun x mx => hl x (List.mem_cons_of_mem _ mx)) (by rw [hc]; congr 1; omega)
      rw [tx_rec ok nf, Nat.add_assoc, List.getElem?_append_right (by split <;> simp)]
      have e0 : (if finN rows s = some b then 1 else 0) + (((List.range l).map fun k => cst rows z b (stp rows s k)).sum + plc rows z (b - m) t ls) - (if finN rows s = some b then [[]] else [] : List (List Nat)).length = ((List.range l).flatMap (txL rows z b s)).length + plc rows z (b - m) t ls := by
        rw [List.length_flatMap, List.map_congr_left fun k _ => txL_len rows z b s k]
        split <;> simp
      rw [e0, flat_get _ _ _ _ (by omega), show z - l = (z - l - 1) + 1 by omega, List.range'_succ, List.flatMap_cons, List.getElem?_append_left]
      · unfold txL
        rw [e]
        dsimp only
        rw [if_pos (by omega), List.getElem?_map, ih]
        rfl
      · rw [txL_len, e]
        unfold cst
        dsimp only
        rw [if_pos (by omega)]
        exact (List.getElem?_eq_some_iff.mp ih).1
end KL
end
section
set_option maxHeartbeats 1000000
namespace KL
open PySem PySem.Spec PyProof.Rows L2
abbrev sc_gatheredN : List Str := ["steps", "found", "step", "letters", "more", "after"]
abbrev s_gathered : Stmt := topS 42
theorem sc_gathered : FnScope ["steps", "found", "step", "letters", "more", "after"] ["steps"] (defScope s_gathered) := ⟨rfl, rfl, rfl, by decide +kernel, rfl, by decide +kernel, by decide +kernel⟩
/-- unlike steps, each with how many letters take it -/
abbrev G3 := Nat × Nat × Nat
def gSum (gs : List G3) (f : Nat → Nat → Nat) : Nat := (gs.map fun g => g.2.2 * f g.1 g.2.1).sum
def stV (f : Nat → Nat → Nat) : Th → Nat
  | .tup [.int m, .int t] => f m.toNat t.toNat
  | _ => 0
def sSum (ss : List Th) (f : Nat → Nat → Nat) : Nat := (ss.map (stV f)).sum
/-- a list of triples as they lie: the triples' own tuples -/
def G3At (H : Hp) (a : Addr) (gs : List G3) : Prop := ∃ as : List Addr, H a = some (.lst (as.map V.ref)) ∧ as.length = gs.length ∧ ∀ (i : Nat) (b : Addr) (g : G3), as[i]? = some b → gs[i]? = some g → H b = some (.tup [nV g.1, nV g.2.1, nV g.2.2])
def spGath : Sp := fun vs H Q _ => ∃ (Z : Zone) (ps : Addr) (us : List V) (ss : List Th) (n : Int), vs = [.ref ps] ∧ H ps = some (.tup us) ∧ AtAll Z H ss us ∧ (∀ st ∈ ss, StepIs n st) ∧ ss.length ≤ 8 ∧
  ∀ (D : Addr) (gs : List G3) (H' : Hp), Same H H' → H D = none → G3At H' D gs → gs.length ≤ 8 → (∀ g ∈ gs, g.1 ≤ 60 ∧ (g.2.1 : Int) < n ∧ g.2.2 ≤ 8) → (∀ f, gSum gs f = sSum ss f) → (∀ g ∈ gs, Th.tup [.int (g.1 : Nat), .int (g.2.1 : Nat)] ∈ ss) → Q (.ref D) H'
abbrev kTg (m t : Nat) : List Key := [Sum.inl (m : Int), Sum.inl (t : Int)]
/-- the dict of counts by the step -/
def DOf (gs : List G3) : List (List Key × V) := gs.map fun g => (kTg g.1 g.2.1, nV g.2.2)
theorem kT_inj {m t m' t' : Nat} (h : kTg m t = kTg m' t') : m = m' ∧ t = t' := by
  unfold kTg at h
  injection h with h1 h2
  injection h2 with h2 _
  injection h1 with h1
  injection h2 with h2
  omega
def cG (m t : Nat) : List G3 → Option Nat
  | [] => none
  | g :: r => if g.1 = m ∧ g.2.1 = t then some g.2.2 else cG m t r
/-- one letter more for a step -/
def addG (m t : Nat) (gs : List G3) : List G3 := match cG m t gs with
  | some c => gs.map fun g => if g.1 = m ∧ g.2.1 = t then (m, t, c + 1) else g
  | none => gs ++ [(m, t, 1)]
theorem valG (m t : Nat) : ∀ gs : List G3, valV (DOf gs) (kTg m t) = (cG m t gs).map nV
  | [] => rfl
  | g :: r => by
    rw [cG]
    show valV ((kTg g.1 g.2.1, nV g.2.2) :: DOf r) (kTg m t) = _
    by_cases h : g.1 = m ∧ g.2.1 = t
    · rw [if_pos h, valV_pos (by obtain ⟨rfl, rfl⟩ := h; rfl)]
      rfl
    · rw [if_neg h, valV_neg (fun e => h (kT_inj e)), valG m t r]
theorem cG_none {m t : Nat} : ∀ {gs : List G3}, cG m t gs = none → ∀ g ∈ gs, ¬ (g.1 = m ∧ g.2.1 = t)
  | [], _, g, h => nomatch h
  | g :: r, e, x, mx => by
    rw [cG] at e
    split at e
    · cases e
    · next h =>
      rcases List.mem_cons.mp mx with rfl | mx
      · exact h
      · exact cG_none e x mx
theorem cG_some {m t c : Nat} : ∀ {gs : List G3}, cG m t gs = some c → (m, t, c) ∈ gs
  | g :: r, e => by
    rw [cG] at e
    split at e
    · next h =>
      obtain ⟨a, b, d⟩ := g
      obtain ⟨h1, h2⟩ := h
      have e' : d = c := Option.some.inj e
      rw [← e', ← h1, ← h2]
      exact List.mem_cons_self
    · exact List.mem_cons_of_mem _ (cG_some e)
theorem addG_put (m t : Nat) (gs : List G3) : DOf (addG m t gs) = putK (DOf gs) (kTg m t) (nV ((cG m t gs).getD 0 + 1)) := by
  unfold addG
  cases e : cG m t gs with
  | none =>
    rw [putK_new _ (by rw [valG, e]; rfl)]
    unfold DOf
    rw [List.map_append]
    rfl
  | some c =>
    unfold putK
    have hp : ((DOf gs).any fun kv => decide (kv.1 = kTg m t)) = true := List.any_eq_true.mpr ⟨(kTg m t, nV c), List.mem_map.mpr ⟨_, cG_some e, rfl⟩, by simp⟩
    rw [if_pos hp]
    unfold DOf
    rw [List.map_map, List.map_map]
    refine List.map_congr_left fun g _ => ?_
    dsimp only [Function.comp]
    by_cases h : g.1 = m ∧ g.2.1 = t
    · rw [if_pos h]
      obtain ⟨rfl, rfl⟩ := h
      rw [if_pos rfl]
      rfl
    · rw [if_neg h, if_neg fun q => h (kT_inj q)]
def keysG (gs : List G3) : List (Nat × Nat) := gs.map fun g => (g.1, g.2.1)
theorem cG_sum {m t c : Nat} (f : Nat → Nat → Nat) : ∀ {gs : List G3}, (keysG gs).Nodup → cG m t gs = some c → gSum (gs.map fun g => if g.1 = m ∧ g.2.1 = t then (m, t, c + 1) else g) f = gSum gs f + f m t
  | g :: r, nd, e => by
    have nd' := List.nodup_cons.mp (show ((g.1, g.2.1) :: keysG r).Nodup from nd)
    rw [cG] at e
    have e0 : ∀ (x : G3) (l : List G3), gSum (x :: l) f = x.2.2 * f x.1 x.2.1 + gSum l f := fun x l => rfl
    rw [List.map_cons, e0, e0]
    by_cases h : g.1 = m ∧ g.2.1 = t
    · rw [if_pos h] at e ⊢
      have er : (r.map fun g => if g.1 = m ∧ g.2.1 = t then (m, t, c + 1) else g) = r := by
        rw [show r = r.map id by rw [List.map_id], List.map_map]
        refine List.map_congr_left fun x mx => ?_
        show (if x.1 = m ∧ x.2.1 = t then _ else x) = x
        rw [if_neg]
        rintro ⟨rfl, rfl⟩
        exact nd'.1 (List.mem_map.mpr ⟨x, mx, by rw [h.1, h.2]⟩)
      rw [er]
      have e' := Option.some.inj e
      rw [h.1, h.2, e']
      show (c + 1) * f m t + _ = _
      rw [Nat.add_mul, Nat.one_mul]
      omega
    · rw [if_neg h] at e ⊢
      rw [cG_sum f nd'.2 e]
      omega
structure GI (n : Int) (ss : List Th) (gs : List G3) : Prop where
  nd : (keysG gs).Nodup
  len : gs.length ≤ ss.length
  bd : ∀ g ∈ gs, g.1 ≤ 60 ∧ (g.2.1 : Int) < n ∧ g.2.2 ≤ ss.length
  sm : ∀ f, gSum gs f = sSum ss f
  mm : ∀ g ∈ gs, Th.tup [.int (g.1 : Nat), .int (g.2.1 : Nat)] ∈ ss
theorem sSum_snoc (ss : List Th) (st : Th) (f : Nat → Nat → Nat) : sSum (ss ++ [st]) f = sSum ss f + stV f st := by
  unfold sSum
  rw [List.map_append, List.sum_append]
  simp
theorem GI.nil (n : Int) : GI n [] [] := ⟨List.nodup_nil, Nat.le_refl _, (fun g h => nomatch h), fun _ => rfl, (fun g h => nomatch h)⟩
theorem GI.skip {n : Int} {ss : List Th} {gs : List G3} (h : GI n ss gs) : GI n (ss ++ [.non]) gs where
  nd := h.nd
  len := by rw [List.length_append]; have := h.len; omega
  bd := fun g m => by have := h.bd g m; rw [List.length_append]; exact ⟨this.1, this.2.1, by omega⟩
  sm := fun f => by rw [sSum_snoc, h.sm]; rfl
  mm := fun g m => List.mem_append_left _ (h.mm g m)
theorem GI.add {n : Int} {ss : List Th} {gs : List G3} (h : GI n ss gs) {m t : Nat} (h1 : m ≤ 60) (h2 : (t : Int) < n) : GI n (ss ++ [.tup [.int (m : Nat), .int (t : Nat)]]) (addG m t gs) := by
  have sm : ∀ f, gSum (addG m t gs) f = sSum (ss ++ [.tup [.int (m : Nat), .int (t : Nat)]]) f := fun f => by
    rw [sSum_snoc]
    show _ = _ + f ((m : Int)).toNat ((t : Int)).toNat
    rw [Int.toNat_natCast, Int.toNat_natCast, ← h.sm f]
    unfold addG
    cases e : cG m t gs with
    | none =>
      unfold gSum
      rw [List.map_append, List.sum_append]
      simp
    | some c => exact cG_sum f h.nd e
  have ln : (ss ++ [Th.tup [.int (m : Nat), .int (t : Nat)]]).length = ss.length + 1 := by simp
  unfold addG at sm ⊢
  cases e : cG m t gs with
  | none =>
    rw [e] at sm
    refine ⟨?_, by simp only [List.length_append, ln, List.length_singleton]; have := h.len; omega, fun g mg => ?_, sm, fun g mg => ?_⟩
    · unfold keysG
      rw [List.map_append]
      refine List.nodup_append.mpr ⟨h.nd, by simp, fun a ma b mb q => ?_⟩
      obtain ⟨x, mx, rfl⟩ := List.mem_map.mp ma
      rw [List.map_singleton, List.mem_singleton] at mb
      rw [mb] at q
      injection q with q1 q2
      exact cG_none e x mx ⟨q1, q2⟩
    · rw [ln]
      rcases List.mem_append.mp mg with mg | mg
      · have := h.bd g mg
        exact ⟨this.1, this.2.1, by omega⟩
      · rw [List.mem_singleton.mp mg]
        exact ⟨h1, h2, by show 1 ≤ _; omega⟩
    · rcases List.mem_append.mp mg with mg | mg
      · exact List.mem_append_left _ (h.mm g mg)
      · rw [List.mem_singleton.mp mg]
        exact List.mem_append_right _ (List.mem_singleton.mpr rfl)
  | some c =>
    rw [e] at sm
    have ek : keysG (gs.map fun g => if g.1 = m ∧ g.2.1 = t then (m, t, c + 1) else g) = keysG gs := by
      unfold keysG
      rw [List.map_map]
      refine List.map_congr_left fun g _ => ?_
      show ((if g.1 = m ∧ g.2.1 = t then (m, t, c + 1) else g).1, (if g.1 = m ∧ g.2.1 = t then (m, t, c + 1) else g).2.1) = _
      split
      · next q => rw [q.1, q.2]
      · rfl
    have hc : c ≤ ss.length := (h.bd _ (cG_some e)).2.2
    refine ⟨by rw [ek]; exact h.nd, by rw [List.length_map, ln]; have := h.len; omega, fun g mg => ?_, sm, fun g mg => ?_⟩
    · obtain ⟨x, mx, rfl⟩ := List.mem_map.mp mg
      rw [ln]
      split
      · exact ⟨h1, h2, by show c + 1 ≤ _; omega⟩
      · have := h.bd x mx
        exact ⟨this.1, this.2.1, by omega⟩
    · obtain ⟨x, mx, rfl⟩ := List.mem_map.mp mg
      split
      · exact List.mem_append_right _ (List.mem_singleton.mpr rfl)
      · exact List.mem_append_left _ (h.mm x mx)
section
variable {P : Program} {w : World} {K : PySem.W.Frag} {mg : Str → Option Value} {base : Heap} {k : Nat}
theorem ok_gathered (d : Def K mg "gathered" s_gathered ["steps"]) : Cal P w K mg base CX0 (k + 1) "gathered" ["steps"] spGath := by
  refine d.ok sc_gathered (fun vs H Q E h => ?_) (fun f cdv A outer s H vs Q E hr h => ?_)
  · obtain ⟨_, _, _, _, _, rfl, _⟩ := h; rfl
  obtain ⟨Z, ps, us, ss, n, rfl, ep, ar, hst, l8, q⟩ := h
  refine ⟨_, (pss_cons (ps_set (i := 1) sc_gathered.nd rfl (Or.inl rfl) pe_dnewT)
      (pss_cons (ps_for PassesOwn.never rfl (pi_tup (pv 0)) (pg_name (i := 2) sc_gathered.nd rfl (Or.inl rfl)) (pss_one (ps_if (pt_cmpR op_notN (pv 2) pe_non (nomark _)) (pss_one (ps_dput (hu_of hr) (pv 1) (pv 2) (pe_op op_add (pe_dget2 (hu_of hr) (pv 1) (pv 2) pe_int ⟨rfl, rfl, rfl, rfl⟩) pe_int) rfl)) pss_nil)))
      (pss_one (ps_ret (pe_lock (pe_lc (own := [("letters", 3), ("more", 4), ("after", 5)]) (g := (gTup K 2 (gCons (gTup K 2 (gCons (gName 4) (gCons (gName 5) gNil))) (gCons (gName 3) gNil)))) (tt := tYes) rfl sc_gathered.nd (pi_itemsT (pv 1)) (blkOk_by (N := ["steps", "found", "step", "letters", "more", "after"]) (sc := defScope s_gathered) (by decide +kernel)) (fun _ _ _ _ _ => (pg_tup (by rfl) (pgs_cons (pg_tup (by rfl) (pgs_cons (pg_name (i := 4) sc_gathered.nd rfl (Or.inl rfl)) (pgs_cons (pg_name (i := 5) sc_gathered.nd rfl (Or.inl rfl)) pgs_nil))) (pgs_cons (pg_name (i := 3) sc_gathered.nd rfl (Or.inl rfl)) pgs_nil)))) (fun _ _ _ _ _ => pts_nil) (fun _ _ _ _ _ => (pe_tup (pa_cons (pv 4) (pa_cons (pv 5) (pa_cons (pv 3) pa_nil))))))))))), ?_⟩
  intro D nD
  have zD := same_new nD (.dT [])
  have nps : ps ≠ D := fun e => by rw [e, nD] at ep; cases ep
  refine ⟨_, rfl, ps, rfl, ⟨_, .of (zD _ _ ep)⟩, for_tup (xs := us) (fun i σ' H' => Same H H' ∧ ∃ (gs : List G3) (y2 : Option V), σ' = [some (.ref ps), some (.ref D), y2, none, none, none] ∧ H' D = some (.dT (DOf gs)) ∧ GI n (ss.take i) gs) ⟨zD, [], none, rfl, upd_same, by rw [List.take_zero]; exact GI.nil n⟩ (fun i σ' H' _ hh => .of (hh.1 _ _ ep)) (fun i x σ' H' ex hh => ?_) (fun σ' H' hh => ?_)⟩
  · obtain ⟨s1, gs, y2, rfl, eD, gi⟩ := hh
    have hi : i < ss.length := by rw [← ar.len]; exact (List.getElem?_eq_some_iff.mp ex).1
    have lt : (ss.take i).length ≤ 8 := by rw [List.length_take]; omega
    have tk : ∀ {st : Th}, ss[i]? = some st → ss.take (i + 1) = ss.take i ++ [st] := fun h => by rw [List.take_add_one, h]; rfl
    refine ⟨_, rfl, rfl, _, rfl, ?_⟩
    rcases st_get ar hst ex with ⟨f1, rfl⟩ | ⟨q2, m, t, f1, rfl, f2, _, m0, m1, t0, t1⟩
    · refine iteF ⟨s1, gs, _, rfl, eD, ?_⟩
      rw [tk f1]
      exact gi.skip
    · obtain ⟨m, rfl⟩ : ∃ m' : Nat, m = (m' : Int) := ⟨m.toNat, by omega⟩
      obtain ⟨t, rfl⟩ : ∃ t' : Nat, t = (t' : Int) := ⟨t.toNat, by omega⟩
      refine iteT ?_
      have ek : H' q2 = some (.tup ((kTg m t).map kV)) := s1 _ _ f2
      refine ⟨_, rfl, D, rfl, .inr ⟨_, .inl eD⟩, _, rfl, _, DGet.t eD ek, ?_⟩
      rw [valG]
      have ev : ((Option.map nV (cG m t gs)).getD (V.int 0)) = nV ((cG m t gs).getD 0) := by cases cG m t gs <;> rfl
      rw [ev]
      refine ⟨_, _, rfl, rfl, _, rfl, _, rfl, D, _, rfl, DPut.t eD ek (by unfold DOf; rw [List.length_map, sizeLine_eq]; have := gi.len; omega), ?_⟩
      refine ⟨Same.upd_new s1 nD _, addG m t gs, _, rfl, ?_, ?_⟩
      · rw [upd_same, addG_put]
        rfl
      · rw [tk f1]
        exact gi.add (by omega) (by omega)
  · obtain ⟨s1, gs, y2, rfl, eD, gi⟩ := hh
    rw [ar.len, List.take_length] at gi
    refine ⟨D, _, eD, trivial, fun od => ?_⟩
    have sF : ∀ b o, H b = some o → upd H' D (.frz od (.dT (DOf gs))) b = some o := fun b o hb => by
      rw [upd_ne (ne_of_none hb nD)]
      exact s1 _ _ hb
    have eF : upd H' D (.frz od (.dT (DOf gs))) D = some (.frz od (.dT (DOf gs))) := upd_same
    generalize upd H' D (.frz od (.dT (DOf gs))) = F0 at *
    refine ⟨_, rfl, D, od, _, rfl, eF, fun D2 nD2 => lc_it walk_itemsT (fun j G => Same F0 G ∧ ∃ as : List Addr, G D2 = some (.lst (as.map V.ref)) ∧ as.length = j ∧ ∀ (i : Nat) (b : Addr) (g : G3), as[i]? = some b → gs[i]? = some g → b ≠ D2 ∧ b ≠ D ∧ G b = some (.tup [nV g.1, nV g.2.1, nV g.2.2])) ⟨same_new nD2 _, [], upd_same, rfl, fun i b g h => nomatch h⟩ (fun j G _ p2 => p2.1 _ _ eF) (fun j x G G' hj p2 y => ?_) (fun G p2 => ?_)⟩
    · obtain ⟨sG, as, eA, la, ha⟩ := p2
      obtain ⟨T, q1, k1, v1, y1, y2, rfl, nT, rfl⟩ := y
      unfold DOf at y1
      obtain ⟨g, eg, ek⟩ := map_get y1
      injection ek with ek1 ek2
      subst ek1 ek2
      have zT := same_new nT (.tup [.ref q1, nV g.2.2])
      have lgs : j < 8 := by have := (List.getElem?_eq_some_iff.mp eg).1; have := gi.len; omega
      refine ⟨T, _, rfl, .of upd_same, rfl, _, _, rfl, ⟨q1, _, rfl, .of (zT _ _ y2), rfl, _, _, rfl, _, _, rfl, ?_⟩⟩
      refine ⟨rfl, _, _, rfl, rfl, rfl, iteT (B := False) ⟨_, rfl, _, rfl, _, rfl, (by show 3 ≤ sizeLine; decide), fun p np => ?_⟩⟩
      have zp := same_new np (.tup [nV g.1, nV g.2.1, nV g.2.2])
      have eA' := zp _ _ (zT _ _ eA)
      have npD2 : p ≠ D2 := fun e => by rw [e, zT _ _ eA] at np; cases np
      have npD : p ≠ D := fun e => by rw [e, zT _ _ (sG _ _ eF)] at np; cases np
      refine ⟨as.map V.ref, eA', by rw [List.length_map, la, sizeLine_eq]; omega, Same.upd_new (sG.trans (zT.trans zp)) nD2 _, as ++ [p], by rw [upd_same, List.map_append]; rfl, by rw [List.length_append, la]; rfl, fun i b g' ei eg' => ?_⟩
      rcases get_snoc ei with h | ⟨rfl, rfl⟩
      · obtain ⟨n1, n2, e⟩ := ha i b g' h eg'
        exact ⟨n1, n2, by rw [upd_ne n1]; exact zp _ _ (zT _ _ e)⟩
      · rw [la, eg] at eg'
        cases eg'
        exact ⟨npD2, npD, by rw [upd_ne npD2]; exact upd_same⟩
    · obtain ⟨sG, as, eA, la, ha⟩ := p2
      have la' : as.length = gs.length := by rw [la]; unfold DOf; rw [List.length_map]
      refine ⟨sG _ _ eF, q D2 gs _ (fun b o hb => by rw [upd_ne (ne_of_none hb nD)]; exact sG _ _ (sF _ _ hb)) ?_ ?_ (by have := gi.len; omega) (fun g mg => ?_) gi.sm gi.mm⟩
      · exact Same.free sF nD2
      · have nn : D2 ≠ D := fun e => by rw [e, eF] at nD2; cases nD2
        exact ⟨as, by rw [upd_ne nn]; exact eA, la', fun i b g eb eg => by
          obtain ⟨_, n2, e⟩ := ha i b g eb eg
          rw [upd_ne n2]; exact e⟩
      · have := gi.bd g mg
        exact ⟨this.1, this.2.1, by omega⟩
end
end KL
end
section
set_option maxHeartbeats 1000000
namespace KL
open PySem PySem.Spec PyProof.Rows L2
abbrev sc_states_in_turnN : List Str := ["rows", "waits", "found", "state", "others", "end", "steps", "step", "after"]
abbrev s_states_in_turn : Stmt := topS 43
theorem sc_states_in_turn : FnScope ["rows", "waits", "found", "state", "others", "end", "steps", "step", "after"] ["rows"] (defScope s_states_in_turn) := ⟨rfl, rfl, rfl, by decide +kernel, rfl, by decide +kernel, by decide +kernel⟩
def cs_waits : Scope := match defBody s_states_in_turn with
  | .Assign _ (.ListComp _ _ sc _) _ :: _ => sc
  | _ => defScope s_states_in_turn
theorem nx_free {z : Int} {rows : List Th} (ok : MOk z rows) {s t : Nat} (h : t ∈ ((fns rows)[s]?).getD []) : ∃ l : Nat, (l : Int) < z ∧ stepAt rows s l = .tup [.int 0, .int (t : Int)] := by
  rw [fns_getD] at h
  obtain ⟨st, ms, et⟩ := List.mem_filterMap.mp h
  obtain ⟨l, el⟩ := List.mem_iff_getElem?.mp ms
  cases hs : rows[s]? with
  | none => rw [hs] at ms; cases ms
  | some r =>
    obtain ⟨e, ss, er, h1, h2, h3⟩ := ok.row (List.getElem?_eq_some_iff.mp hs).1
    rw [er] at el ms
    have ms' : st ∈ ss := ms
    have el' : ss[l]? = some st := el
    rcases h3 st ms' with rfl | ⟨m, s', rfl, m0, m1, s0, s1⟩
    · cases et
    · have e0 : (if m = 0 then some s'.toNat else none) = some t := et
      split at e0
      · next hm =>
        subst hm
        have e1 : s'.toNat = t := Option.some.inj e0
        have l1 := (List.getElem?_eq_some_iff.mp el').1
        refine ⟨l, by omega, ?_⟩
        unfold stepAt
        rw [er, show (t : Int) = s' by omega, show (stepsOf ((some (Th.tup [e, .tup ss])).getD .non))[l]? = some _ from el']
        rfl
      · cases e0
/-- without a ring that takes nothing there is always a state that waits for none -/
theorem turn_next {z : Int} {rows : List Th} (ok : MOk z rows) (nf : NoR rows) {ord : List Nat} (nd : ord.Nodup) (lt : ∀ x ∈ ord, x < rows.length) (hl : ord.length < rows.length) : ∃ s, s < rows.length ∧ s ∉ ord ∧ ∀ t ∈ ((fns rows)[s]?).getD [], t ∈ ord := by
  by_cases hx : ∃ s, s < rows.length ∧ s ∉ ord ∧ ∀ t ∈ ((fns rows)[s]?).getD [], t ∈ ord
  · exact hx
  · exfalso
    have st : ∀ s, s < rows.length → s ∉ ord → ∃ t, t ∈ ((fns rows)[s]?).getD [] ∧ t ∉ ord := fun s hs ns => by
      by_cases q : ∃ t, t ∈ ((fns rows)[s]?).getD [] ∧ t ∉ ord
      · exact q
      · refine absurd ⟨s, hs, ns, fun t mt => ?_⟩ hx
        by_cases r : t ∈ ord
        · exact r
        · exact absurd ⟨t, mt, r⟩ q
    have long : ∀ (k s : Nat), s < rows.length → s ∉ ord → ∃ ls t, ls.length = k ∧ fwalk rows s ls = some t := by
      intro k
      induction k with
      | zero => intro s _ _; exact ⟨[], s, rfl, rfl⟩
      | succ k ih =>
        intro s hs ns
        obtain ⟨t, mt, nt⟩ := st s hs ns
        obtain ⟨l, _, el⟩ := nx_free ok mt
        obtain ⟨ls, u, hlen, hw⟩ := ih t (fn_lt ok mt) nt
        refine ⟨.int (l : Nat) :: ls, u, by rw [List.length_cons, hlen], ?_⟩
        rw [fwalk, show (num (.int (l : Nat))).toNat = l from Int.toNat_natCast l, el]
        show (if (0 : Int) = 0 then fwalk rows ((t : Int)).toNat ls else none) = some u
        rw [if_pos rfl, Int.toNat_natCast]
        exact hw
    have ⟨s, hs, ns⟩ : ∃ s, s < rows.length ∧ s ∉ ord := by
      by_cases q : ∃ s, s < rows.length ∧ s ∉ ord
      · exact q
      · exfalso
        have := (List.nodup_range (n := rows.length)).length_le_of_subset (l₂ := ord) (fun x m => by
          by_cases r : x ∈ ord
          · exact r
          · exact absurd ⟨x, List.mem_range.mp m, r⟩ q)
        rw [List.length_range] at this
        omega
    obtain ⟨ls, t, hlen, hw⟩ := long (rows.length + 1) s hs ns
    have bd := bound ok nf ls s 0 [] List.nodup_nil (fun x h => nomatch h) (fun x h => nomatch h) 0 t (rdT_free rows ls s t 0 hw)
    have e0 : ((([] : List Nat).length : Nat) : Int) = 0 := rfl
    rw [hlen, e0] at bd
    omega
structure TurnOk (rows : List Th) (ord : List Nat) : Prop where
  nd : ord.Nodup
  lt : ∀ x ∈ ord, x < rows.length
  ah : ∀ (i s : Nat), ord[i]? = some s → ∀ t ∈ ((fns rows)[s]?).getD [], t ∈ ord.take i
theorem TurnOk.nil (rows : List Th) : TurnOk rows [] := ⟨List.nodup_nil, (fun x h => nomatch h), fun i s h => by cases h⟩
theorem TurnOk.add {rows : List Th} {ord : List Nat} (h : TurnOk rows ord) {s : Nat} (hs : s < rows.length) (ns : s ∉ ord) (hf : ∀ t ∈ ((fns rows)[s]?).getD [], t ∈ ord) : TurnOk rows (ord ++ [s]) where
  nd := List.nodup_append.mpr ⟨h.nd, by simp, fun a ma b mb e => ns (by rw [List.mem_singleton.mp mb] at e; rw [← e]; exact ma)⟩
  lt := fun x m => by
    rcases List.mem_append.mp m with m | m
    · exact h.lt x m
    · rw [List.mem_singleton.mp m]; exact hs
  ah := fun i x e t mt => by
    rcases get_snoc e with e | ⟨rfl, rfl⟩
    · have hi := (List.getElem?_eq_some_iff.mp e).1
      rw [List.take_append_of_le_length (by omega)]
      exact h.ah i x e t mt
    · rw [List.take_append_of_le_length (Nat.le_refl _), List.take_length]
      exact hf t mt
theorem TurnOk.len {rows : List Th} {ord : List Nat} (h : TurnOk rows ord) : ord.length ≤ rows.length := nd_len h.nd h.lt
theorem TurnOk.all {rows : List Th} {ord : List Nat} (h : TurnOk rows ord) (hl : rows.length ≤ ord.length) {s : Nat} (hs : s < rows.length) : s ∈ ord := by
  by_cases q : s ∈ ord
  · exact q
  · exfalso
    have := nd_len (n := rows.length) (fs := ord ++ [s]) (List.nodup_append.mpr ⟨h.nd, by simp, fun a ma b mb e => q (by rw [List.mem_singleton.mp mb] at e; rw [← e]; exact ma)⟩) (fun x m => by
      rcases List.mem_append.mp m with m | m
      · exact h.lt x m
      · rw [List.mem_singleton.mp m]; exact hs)
    rw [List.length_append, List.length_singleton] at this
    omega
def spTurn : Sp := fun vs H Q _ => ∃ (Z : Zone) (pr : Addr) (us : List V) (z : Int) (rows : List Th), vs = [.ref pr] ∧ H pr = some (.tup us) ∧ AtAll Z H rows us ∧ MOk z rows ∧ NoR rows ∧ ∀ (O : Addr) (ord : List Nat) H', Same H H' → H O = none → H' O = some (.lst (ord.map nV)) → TurnOk rows ord → ord.length = rows.length → Q (.ref O) H'
theorem free_test {m s : Int} : freeT (.tup [.int m, .int s]) = if m = 0 then some s.toNat else none := rfl
section
variable {P : Program} {w : World} {K : PySem.W.Frag} {mg : Str → Option Value} {base : Heap} {k : Nat}
theorem ok_states_in_turn (Z : Zs mg) (d : Def K mg "states_in_turn" s_states_in_turn ["rows"]) : Cal P w K mg base CX0 (k + 1) "states_in_turn" ["rows"] spTurn := by
  refine d.ok sc_states_in_turn (fun vs H Q E h => ?_) (fun f cdv A outer s H vs Q E hr h => ?_)
  · obtain ⟨_, _, _, _, _, rfl, _⟩ := h; rfl
  obtain ⟨Zn, pr, us, z, rows, rfl, epr, ar, ok, nf, q⟩ := h
  refine ⟨_, (pss_cons (ps_setLc (i := 1) (own := [("end", 5), ("steps", 6)]) (g := (gTup K 2 (gCons (gName 5) (gCons (gName 6) gNil)))) (tt := tYes) rfl sc_states_in_turn.nd rfl rfl (sw_true rfl rfl rfl (by decide +kernel)) (pi_tup (pv 0)) (blkOk_by (N := ["rows", "waits", "found", "state", "others", "end", "steps", "step", "after"]) (sc := defScope s_states_in_turn) (by decide +kernel)) (fun _ _ _ _ _ => (pg_tup (by rfl) (pgs_cons (pg_name (i := 5) sc_states_in_turn.nd rfl (Or.inl rfl)) (pgs_cons (pg_name (i := 6) sc_states_in_turn.nd rfl (Or.inl rfl)) pgs_nil)))) (fun _ _ _ _ _ => pts_nil) (fun _ _ _ _ _ => (pe_lc (wi := iTup K (tVar 6)) (tt := tAnd (tTest (tOp (fun x y H Q => y = .non ∧ Q (.bl (!decide (x = .non))) H) (tVar 7) (tC .non))) (tTest (tOp rEq (tOp (rIxT K) (tVar 7) (tC (.int 0))) (tC (.int 0))))) (own := [("step", 7)]) (g := gName 7) rfl sc_states_in_turn.nd (pi_tup (pv 6)) (blkOk_by (N := ["rows", "waits", "found", "state", "others", "end", "steps", "step", "after"]) (sc := relS cs_waits (defScope s_states_in_turn)) (by decide +kernel)) (fun _ _ _ _ _ => (pg_name (i := 7) sc_states_in_turn.nd rfl (Or.inl rfl))) (fun _ _ _ _ _ => (pts_one (PW.pt (pw_and (pt_cmpR op_notN (pv 7) pe_non (nomark _)) (pw_and1 (pt_cmpR op_eq (pe_ix (r := rIxT K) ix_tup (pv 7) pe_int (fun _ _ => rfl)) pe_int (nomark _))))))) (fun _ _ _ _ _ => (pe_ix (r := rIxT K) ix_tup (pv 7) pe_int (fun _ _ => rfl))))))
      (pss_cons (ps_set (i := 2) sc_states_in_turn.nd rfl (Or.inr rfl) (pe_lst pa_nil))
      (pss_cons (ps_while PassesOwn.never (pt_cmpR op_lt (pe_callB (id := "len") call_len_seq (by rfl) Z.len (by decide +kernel) (pa_cons (pv 2) pa_nil)) (pe_callB (id := "len") call_len_seq (by rfl) Z.len (by decide +kernel) (pa_cons (pv 0) pa_nil)) (nomark _)) (pss_one (ps_for PassesOwn.never rfl (pi_enum (by rfl) Z.enumerate (pa_cons (pv 1) pa_nil)) (pg_tup (by rfl) (pgs_cons (pg_name (i := 3) sc_states_in_turn.nd rfl (Or.inl rfl)) (pgs_cons (pg_name (i := 4) sc_states_in_turn.nd rfl (Or.inl rfl)) pgs_nil))) (pss_one (ps_if (PW.pt (pw_and (pt_cmpR op_notIn_seq (pv 3) (pv 2) (by rfl)) (pw_and1 (pt_val (pe_callB (id := "all") (cr_all rfl) (by rfl) Z.all (by decide +kernel) (pa_cons (pe_lc (own := [("after", 8)]) (g := gName 8) (tt := tYes) rfl sc_states_in_turn.nd (pi_list (pv 4)) (blkOk_by (N := ["rows", "waits", "found", "state", "others", "end", "steps", "step", "after"]) (sc := defScope s_states_in_turn) (by decide +kernel)) (fun _ _ _ _ _ => (pg_name (i := 8) sc_states_in_turn.nd rfl (Or.inl rfl))) (fun _ _ _ _ _ => pts_nil) (fun _ _ _ _ _ => (pe_cmpR (r := rIn K false) op_in_seq (pv 8) (pv 2) (by rfl)))) pa_nil)))))) (pss_one (ps_expr (pe_bm PySem.F.plainAttrs_list PySem.F.slot_list_append PySem.F.type_list_append mt_append (pv 2) (pa_cons (pv 3) pa_nil)))) pss_nil)))))
      (pss_one (ps_ret (pv 2)))))), ?_⟩
  have n30 := ok.n30
  have z8 := ok.z8
  have lu := ar.len
  -- waits
  refine ⟨_, rfl, pr, rfl, ⟨_, .of epr⟩, fun D hD => lc_tup (xs := us) (fun j H' => Same H H' ∧ ∃ as : List Addr, H' D = some (.lst (as.map V.ref)) ∧ as.length = j ∧ ∀ (i : Nat) (a : Addr) (ws : List Nat), as[i]? = some a → (fns rows)[i]? = some ws → a ≠ D ∧ H a = none ∧ H' a = some (.lst (ws.map nV)))
    ⟨same_new hD _, [], upd_same, rfl, fun i a ws h => nomatch h⟩ (fun j H' _ p' => .of (p'.1 _ _ epr)) (fun j x H' ex p' => ?_) (fun H1 p1 => ?_)⟩
  · obtain ⟨s', as, eD, la, ha⟩ := p'
    have hj : j < rows.length := by rw [← lu]; exact (List.getElem?_eq_some_iff.mp ex).1
    obtain ⟨pu, ve, ps, vs, e, ss, b1, b2, b3, b4, b5, b6, b7, b8, b9⟩ := row_at (ar.same s') ok hj
    rw [b1] at ex; cases ex
    refine ⟨pu, _, rfl, .of b2, rfl, ve, _, rfl, _, _, rfl, rfl, rfl, iteT (B := False) ?_⟩
    refine ⟨_, rfl, ps, rfl, ⟨_, .of b3⟩, fun D2 hD2 => lc_tup (xs := vs) (fun j2 G => Same H' G ∧ G D2 = some (.lst (((ss.take j2).filterMap freeT).map nV))) ⟨same_new hD2 _, upd_same⟩ (fun j2 G _ p2 => .of (p2.1 _ _ b3)) (fun j2 x2 G ex2 p2 => ?_) (fun G p2 => ?_)⟩
    · obtain ⟨sG, eD2⟩ := p2
      have lj : j2 < ss.length := by rw [← b8.len]; exact (List.getElem?_eq_some_iff.mp ex2).1
      have lf : (((ss.take j2).filterMap freeT).map nV).length < sizeLine := by
        rw [List.length_map, sizeLine_eq]
        have := List.length_filterMap_le freeT (ss.take j2)
        rw [List.length_take] at this
        omega
      refine ⟨rfl, _, rfl, rfl, _, rfl, ?_⟩
      rcases st_get (b8.same sG) b9 ex2 with ⟨f1, rfl⟩ | ⟨q2, m, s2, f1, rfl, f2, _, m0, m1, s0, s1⟩
      · refine iteF (iteF ⟨sG, ?_⟩)
        rw [List.take_add_one, f1, List.filterMap_append]
        show G D2 = some (.lst (((List.take j2 ss).filterMap freeT ++ []).map nV))
        rw [List.append_nil]
        exact eD2
      · refine iteT ⟨_, rfl, q2, _, 0, .int m, rfl, rfl, .of f2, rfl, rfl, _, rfl, ?_⟩
        by_cases hm : m = 0
        · subst hm
          refine iteT ⟨_, rfl, q2, _, 1, .int s2, rfl, rfl, .of f2, rfl, _, eD2, lf, Same.upd_new sG hD2 _, ?_⟩
          rw [upd_same, List.take_add_one, f1, List.filterMap_append, List.map_append]
          show some (HO.lst (_ ++ [V.int s2])) = some (HO.lst (_ ++ [V.int ((s2.toNat : Nat) : Int)]))
          rw [show ((s2.toNat : Nat) : Int) = s2 by omega]
        · rw [show decide (V.int m = V.int 0) = false from decide_eq_false fun e => hm (by injection e)]
          refine iteF ⟨sG, ?_⟩
          rw [List.take_add_one, f1, List.filterMap_append]
          rw [show (some (Th.tup [.int m, .int s2])).toList.filterMap freeT = [] by show ([Th.tup [.int m, .int s2]].filterMap freeT) = []; rw [free_one rfl, if_neg hm], List.append_nil]
          exact eD2
    · obtain ⟨sG, eD2⟩ := p2
      rw [b8.len, List.take_length] at eD2
      refine ⟨as.map V.ref, sG _ _ eD, by rw [List.length_map, la, sizeLine_eq]; omega, Same.upd_new (s'.trans sG) hD _, as ++ [D2], by rw [upd_same, List.map_append]; rfl, by rw [List.length_append, la]; rfl, fun i a ws ei ew => ?_⟩
      have nD : D2 ≠ D := fun e => by rw [e, eD] at hD2; cases hD2
      rcases get_snoc ei with h | ⟨rfl, rfl⟩
      · obtain ⟨n, na, ea⟩ := ha i a ws h ew
        exact ⟨n, na, by rw [upd_ne n]; exact sG _ _ ea⟩
      · rw [la, fns_get b4] at ew
        cases ew
        exact ⟨nD, Same.free s' hD2, by rw [upd_ne nD]; exact eD2⟩
  obtain ⟨s1, as, eN, la, ha⟩ := p1
  have la' : as.length = rows.length := by rw [la, lu]
  -- found
  refine ⟨(by show 0 ≤ sizeLine; decide), fun O nO => ?_⟩
  have zO := same_new nO (.lst [])
  have nOH : H O = none := Same.free s1 nO
  have nON : O ≠ D := fun e => by rw [e, eN] at nO; cases nO
  have eO0 : upd H1 O (.lst []) O = some (.lst []) := upd_same
  generalize upd H1 O (.lst []) = H2 at *
  have s2 := s1.trans zO
  have key : ∀ {G : Hp}, SB (At1 O) H2 G → ∀ b o, H1 b = some o → G b = some o := fun sB b o hb => sB _ _ (fun e => by rw [show b = O from e, nO] at hb; cases hb) (zO _ _ hb)
  refine ⟨fun m σ' H' => ∃ (ord : List Nat) (y3 y4 : Option V), σ' = [some (.ref pr), some (.ref D), some (.ref O), y3, y4, none, none, none, none] ∧ SB (At1 O) H2 H' ∧ H' O = some (.lst (ord.map nV)) ∧ TurnOk rows ord ∧ m = rows.length - ord.length,
    ⟨_, [], none, none, rfl, .rfl', eO0, TurnOk.nil rows, rfl⟩, ?_⟩
  rintro m σ' H3 ⟨ord, y3, y4, rfl, sB, eO, tk, em⟩
  have k3 := key sB
  have c1 : decide (((ord.map nV).length : Int) < ((us.length : Nat) : Int)) = decide (ord.length < rows.length) := decide_eq_decide.mpr (by rw [List.length_map, lu]; omega)
  refine ⟨_, rfl, O, _, rfl, .inl (.of eO), _, rfl, pr, _, rfl, .inr (.of (k3 _ _ (s1 _ _ epr))), _, _, rfl, rfl, _, rfl, iteB (fun e1 => ?_) (fun e1 => ?_)⟩
  · rw [c1, decide_eq_true_eq] at e1
    refine ⟨fun σ' H' => ∃ m', m' < m ∧ ∃ (ord : List Nat) (y3 y4 : Option V), σ' = [some (.ref pr), some (.ref D), some (.ref O), y3, y4, none, none, none, none] ∧ SB (At1 O) H2 H' ∧ H' O = some (.lst (ord.map nV)) ∧ TurnOk rows ord ∧ m' = rows.length - ord.length, fun σ' H' h => h, ?_⟩
    refine ⟨_, rfl, D, _, rfl, .of (k3 _ _ eN), for_it walk_enum (fun i σ' G => SB (At1 O) H2 G ∧ ∃ (o2 : List Nat) (y3 y4 : Option V), σ' = [some (.ref pr), some (.ref D), some (.ref O), y3, y4, none, none, none, none] ∧ G O = some (.lst (o2.map nV)) ∧ TurnOk rows o2 ∧ (∃ more, o2 = ord ++ more) ∧ ∀ s', s' < i → (∀ t ∈ ((fns rows)[s']?).getD [], t ∈ ord) → s' ∈ o2)
      ⟨sB, ord, _, _, rfl, eO, tk, ⟨[], (List.append_nil _).symm⟩, fun s' h => absurd h (Nat.not_lt_zero _)⟩ (fun i σ' G _ p' => .of (key p'.1 _ _ eN)) (fun i x σ' G G' hi p' y => ?_) (fun σ' G p' => ?_)⟩
    · obtain ⟨sG, o2, y3, y4, rfl, eO2, tk2, ⟨more, rfl⟩, hall⟩ := p'
      obtain ⟨T, x1, x2, rfl, nT, rfl, g1, g2⟩ := y
      cases g1
      rw [List.length_map, la'] at hi
      obtain ⟨ca, ec, rfl⟩ := map_get g2
      have ew : (fns rows)[i]? = some ((fns rows)[i]'(by rw [fns_len]; exact hi)) := List.getElem?_eq_getElem _
      generalize (fns rows)[i]'(by rw [fns_len]; exact hi) = ws at ew
      obtain ⟨_, _, eca⟩ := ha i ca ws ec ew
      have lws : ws.length ≤ 8 := by
        obtain ⟨e, ss, er, h1, h2, h3⟩ := ok.row hi
        rw [fns_get er] at ew
        cases ew
        have := List.length_filterMap_le freeT ss
        show (ss.filterMap freeT).length ≤ 8
        omega
      have zT := same_new nT (.tup [V.int (i : Nat), V.ref ca])
      have eOT := zT _ _ eO2
      have sGT : SB (At1 O) H2 (upd G T (.tup [V.int (i : Nat), V.ref ca])) := sG.trans (.of zT)
      have ecT := key sGT _ _ eca
      refine ⟨T, _, rfl, .of upd_same, rfl, _, _, rfl, _, _, rfl, rfl, ?_⟩
      generalize upd G T (.tup [V.int (i : Nat), V.ref ca]) = G1 at *
      have lo2 := tk2.len
      have skip : ∀ {G2 : Hp} {y3 y4 : Option V}, SB (At1 O) H2 G2 → G2 O = some (.lst ((ord ++ more).map nV)) → (i ∈ ord ++ more ∨ ∃ t ∈ ws, t ∉ ord ++ more) → SB (At1 O) H2 G2 ∧ ∃ (o2 : List Nat) (y3' y4' : Option V), [some (.ref pr), some (.ref D), some (.ref O), y3, y4, none, none, none, none] = [some (.ref pr), some (.ref D), some (.ref O), y3', y4', none, none, none, none] ∧ G2 O = some (.lst (o2.map nV)) ∧ TurnOk rows o2 ∧ (∃ more, o2 = ord ++ more) ∧ ∀ s', s' < i + 1 → (∀ t ∈ ((fns rows)[s']?).getD [], t ∈ ord) → s' ∈ o2 := by
        intro G2 y3 y4 s2 e2 hc
        refine ⟨s2, ord ++ more, _, _, rfl, e2, tk2, ⟨more, rfl⟩, fun s' hs' hf => ?_⟩
        by_cases e : s' = i
        · subst e
          rcases hc with h | ⟨t, mt, nt⟩
          · exact h
          · exact absurd (List.mem_append_left _ (hf t (by rw [ew]; exact mt))) nt
        · exact hall s' (by omega) hf
      refine ⟨_, rfl, _, rfl, O, _, rfl, .inl (.of eOT), rfl, flat_ns _, _, rfl, ?_⟩
      by_cases hin : i ∈ ord ++ more
      · rw [show (!inV (nV i) ((ord ++ more).map nV)) = false by rw [inV_ns, decide_eq_true hin]; rfl]
        exact iteF (iteF (skip sGT eOT (.inl hin)))
      rw [show (!inV (nV i) ((ord ++ more).map nV)) = true from (notin_ns i _).mpr hin]
      refine iteT ?_
      refine ⟨_, rfl, ca, rfl, ⟨_, .of ecT⟩, fun D2 hD2 => lc_list (K := K) (a := ca) (xs := ws.map nV) (fun j G2 => Same G1 G2 ∧ G2 D2 = some (.lst (((ws.take j).map fun t => decide (t ∈ ord ++ more)).map V.bl))) ⟨same_new hD2 _, upd_same⟩ (fun j G2 _ p2 => .of (p2.1 _ _ ecT)) (fun j x G2 ex p2 => ?_) (fun G2 p2 => ?_)⟩
      · obtain ⟨sG2, eD2⟩ := p2
        obtain ⟨t, et, rfl⟩ := map_get ex
        have lj := (List.getElem?_eq_some_iff.mp et).1
        refine ⟨rfl, iteT (B := False) ⟨_, rfl, _, rfl, O, _, rfl, .inl (.of (sG2 _ _ eOT)), rfl, flat_ns _, _, eD2, by rw [List.length_map, List.length_map, List.length_take, sizeLine_eq]; omega, Same.upd_new sG2 hD2 _, ?_⟩⟩
        rw [upd_same, List.take_add_one, et, inV_ns, List.map_append, List.map_append]
        rfl
      · obtain ⟨sG2, eD2⟩ := p2
        rw [List.length_map, List.take_length] at eD2
        have eO3 := sG2 _ _ eOT
        have sG3 : SB (At1 O) H2 G2 := sGT.trans (.of sG2)
        refine ⟨D2, _, rfl, .of eD2, _, rfl, ?_⟩
        by_cases hall2 : ∀ t ∈ ws, t ∈ ord ++ more
        · rw [show ((ws.map fun t => decide (t ∈ ord ++ more)).all id) = true by
            rw [List.all_map, List.all_eq_true]; exact fun t mt => decide_eq_true (hall2 t mt)]
          refine iteT ⟨_, rfl, .inl ⟨rfl, _, .inl (.inl eO3)⟩, _, rfl, O, _, nV i, rfl, rfl, eO3, by rw [List.length_map, sizeLine_eq]; omega, ?_⟩
          refine ⟨sG3.trans (.selfW _), ord ++ more ++ [i], _, _, rfl, by rw [upd_same, List.map_append (l₁ := ord ++ more)]; rfl, tk2.add hi hin (by rw [ew]; exact hall2), ⟨more ++ [i], List.append_assoc _ _ _⟩, fun s' hs' hf => ?_⟩
          by_cases e : s' = i
          · subst e; simp
          · exact List.mem_append_left _ (hall s' (by omega) hf)
        · have ⟨t, mt, nt⟩ : ∃ t, t ∈ ws ∧ t ∉ ord ++ more := by
            by_cases q : ∃ t, t ∈ ws ∧ t ∉ ord ++ more
            · exact q
            · refine absurd (fun t mt => ?_) hall2
              by_cases r : t ∈ ord ++ more
              · exact r
              · exact absurd ⟨t, mt, r⟩ q
          rw [show ((ws.map fun t => decide (t ∈ ord ++ more)).all id) = false by
            rw [List.all_map]
            exact List.all_eq_false.mpr ⟨t, mt, by simpa using nt⟩]
          exact iteF (skip sG3 eO3 (.inr ⟨t, mt, nt⟩))
    · obtain ⟨sG, o2, y3, y4, rfl, eO2, tk2, ⟨more, rfl⟩, hall⟩ := p'
      rw [List.length_map, la'] at hall
      obtain ⟨s', hs', ns', hf⟩ := turn_next ok nf tk.nd tk.lt e1
      have ms := hall s' hs' hf
      have lm : 1 ≤ more.length := by
        cases more with
        | nil => rw [List.append_nil] at ms; exact absurd ms ns'
        | cons a r => simp
      refine ⟨_, ?_, ord ++ more, _, _, rfl, sG, eO2, tk2, rfl⟩
      rw [em, List.length_append]
      omega
  · rw [c1, decide_eq_false_iff_not] at e1
    have l1 := tk.len
    exact ⟨_, rfl, q O ord H3 (fun b o hb => k3 _ _ (s1 _ _ hb)) nOH eO tk (by omega)⟩
end
end KL
end
section
set_option maxHeartbeats 1000000
namespace KL
open PySem PySem.Spec PyProof.Rows L2
abbrev sc_law_idleN : List Str := ["_law_small", "_law_beside", "_law_end", "_law_steps", "_law_begin", "_law_known", "_law_turn", "_law_state", "_law_step", "_law_other"]
abbrev s_law_idle : Stmt := topS 60
theorem sc_law_idle : FnScope ["_law_small", "_law_beside", "_law_end", "_law_steps", "_law_begin", "_law_known", "_law_turn", "_law_state", "_law_step", "_law_other"] ["_law_small"] (defScope s_law_idle) := ⟨rfl, rfl, rfl, by decide +kernel, rfl, by decide +kernel, by decide +kernel⟩
def spIdleL : Sp := fun vs H Q _ => ∃ (Z : Zone) (u : V) (z : Int) (R : List Th), vs = [u] ∧ At Z H (.tup [.int z, .tup R]) u ∧ MOk z R ∧ ∀ (b : Bool) H', Same H H' → (b = false ↔ NoR R) → Q (.bl b) H'
theorem fns_lt {z : Int} {R : List Th} (ok : MOk z R) : ∀ (x : Nat) (ws : List Nat), (fns R)[x]? = some ws → ∀ t ∈ ws, t < (fns R).length := fun x ws e t m => by
  rw [fns_len]
  exact fn_lt ok (i := x) (by rw [e]; exact m)
theorem fns_8 {z : Int} {R : List Th} (ok : MOk z R) (x : Nat) : (((fns R)[x]?).getD []).length ≤ 8 := by
  rw [fns_getD]
  cases hs : R[x]? with
  | none => exact Nat.zero_le _
  | some r =>
    obtain ⟨e, ss, er, h1, h2, h3⟩ := ok.row (List.getElem?_eq_some_iff.mp hs).1
    rw [hs] at er
    cases er
    have := List.length_filterMap_le freeT ss
    have := ok.z8
    show (ss.filterMap freeT).length ≤ 8
    omega
section
variable {P : Program} {w : World} {K : PySem.W.Frag} {mg : Str → Option Value} {base : Heap} {k : Nat}
theorem ok_law_idle (Z : Zs mg) (d : Def K mg "_law_idle" s_law_idle ["_law_small"]) : Cal P w K mg base CX0 (k + 1) "_law_idle" ["_law_small"] spIdleL := by
  refine d.ok sc_law_idle (fun vs H Q E h => ?_) (fun f cdv A outer s H vs Q E hr h => ?_)
  · obtain ⟨_, _, _, _, rfl, _⟩ := h; rfl
  obtain ⟨Zn, u, z, R, rfl, hu, ok, q⟩ := h
  refine ⟨_, (pss_cons (ps_set (i := 1) sc_law_idle.nd rfl (Or.inl rfl) (pe_lst pa_nil))
      (pss_cons (ps_for PassesOwn.never rfl (pi_tup (pe_ix ix_tup (pv 0) pe_int (fun _ _ => rfl))) (pg_tup (by rfl) (pgs_cons (pg_name (i := 2) sc_law_idle.nd rfl (Or.inl rfl)) (pgs_cons (pg_name (i := 3) sc_law_idle.nd rfl (Or.inl rfl)) pgs_nil))) (pss_one (ps_expr (pe_bm PySem.F.plainAttrs_list PySem.F.slot_list_append PySem.F.type_list_append mt_append (pv 1) (pa_cons (pe_lc (own := [("_law_step", 8)]) (g := gName 8) (tt := _) rfl sc_law_idle.nd (pi_tup (pv 3)) (blkOk_by (N := ["_law_small", "_law_beside", "_law_end", "_law_steps", "_law_begin", "_law_known", "_law_turn", "_law_state", "_law_step", "_law_other"]) (sc := defScope s_law_idle) (by decide +kernel)) (fun _ _ _ _ _ => (pg_name (i := 8) sc_law_idle.nd rfl (Or.inl rfl))) (fun _ _ _ _ _ => (pts_one (PW.pt (pw_and (pt_cmpR op_notN (pv 8) pe_non (nomark _)) (pw_and1 (pt_cmpR op_eq (pe_ix (r := rIxT K) ix_tup (pv 8) pe_int (fun _ _ => rfl)) pe_int (nomark _))))))) (fun _ _ _ _ _ => (pe_ix (r := rIxT K) ix_tup (pv 8) pe_int (fun _ _ => rfl)))) pa_nil)))))
      (pss_cons (ps_for PassesOwn.never rfl (pi_range1 (by rfl) Z.range (pa_cons (pe_callB (id := "len") call_len_seq (by rfl) Z.len (by decide +kernel) (pa_cons (pv 1) pa_nil)) pa_nil)) (pg_name (i := 4) sc_law_idle.nd rfl (Or.inl rfl)) (pss_cons (ps_set (i := 5) sc_law_idle.nd rfl (Or.inr rfl) (pe_callTy (T := "list") call_list_of (by rfl) Z.list (by decide +kernel) (pa_cons (pe_ix ix_list (pv 1) (pv 4) (fun _ _ => rfl)) pa_nil)))
      (pss_cons (ps_for PassesOwn.never rfl (pi_range1 (by rfl) Z.range (pa_cons (pe_callB (id := "len") call_len_seq (by rfl) Z.len (by decide +kernel) (pa_cons (pv 1) pa_nil)) pa_nil)) (pg_name (i := 6) sc_law_idle.nd rfl (Or.inl rfl)) (pss_one (ps_for PassesOwn.never rfl (pi_list (pe_callTy (T := "list") call_list_of (by rfl) Z.list (by decide +kernel) (pa_cons (pv 5) pa_nil))) (pg_name (i := 7) sc_law_idle.nd rfl (Or.inl rfl)) (pss_one (ps_expr (pe_bm PySem.F.plainAttrs_list PySem.F.slot_list_extend PySem.F.type_list_extend mt_extend (pv 5) (pa_cons (pe_lc (own := [("_law_other", 9)]) (g := gName 9) (tt := _) rfl sc_law_idle.nd (pi_list (pe_ix ix_list (pv 1) (pv 7) (fun _ _ => rfl))) (blkOk_by (N := ["_law_small", "_law_beside", "_law_end", "_law_steps", "_law_begin", "_law_known", "_law_turn", "_law_state", "_law_step", "_law_other"]) (sc := defScope s_law_idle) (by decide +kernel)) (fun _ _ _ _ _ => (pg_name (i := 9) sc_law_idle.nd rfl (Or.inl rfl))) (fun _ _ _ _ _ => (pts_one (pt_cmpR (r := rIn K true) op_notIn_seq (pv 9) (pv 5) (by rfl)))) (fun _ _ _ _ _ => (pv 9))) pa_nil)))))))
      (pss_one (ps_if (pt_cmpR op_in_seq (pv 4) (pv 5) (by rfl)) (pss_one (ps_ret pe_bl)) pss_nil)))))
      (pss_one (ps_ret pe_bl))))), ?_⟩
  have n30 := ok.n30
  have z8 := ok.z8
  obtain ⟨p, pr, us, rfl, ep, epr, ar, _⟩ := hu.mach
  have lu := ar.len
  refine ⟨(by show 0 ≤ sizeLine; decide), fun L nL => ?_⟩
  have zL := same_new nL (.lst [])
  have eL0 : upd H L (.lst []) L = some (.lst []) := upd_same
  generalize upd H L (.lst []) = H0 at *
  refine ⟨_, rfl, p, _, 1, .ref pr, rfl, rfl, .of (zL _ _ ep), rfl, pr, rfl, ⟨_, .of (zL _ _ epr)⟩, ?_⟩
  refine for_tup (xs := us) (fun j σ' G => SB (At1 L) H0 G ∧ ∃ (as : List Addr) (y2 y3 : Option V), σ' = [some (.ref p), some (.ref L), y2, y3, none, none, none, none, none, none] ∧ G L = some (.lst (as.map V.ref)) ∧ as.length = j ∧ ∀ (i : Nat) (a : Addr) (ws : List Nat), as[i]? = some a → (fns R)[i]? = some ws → a ≠ L ∧ G a = some (.lst (ws.map nV)))
    ⟨.rfl', [], none, none, rfl, eL0, rfl, fun i a ws h => nomatch h⟩ (fun j σ' G _ hh => .of (hh.1 _ _ (fun e => by rw [show pr = L from e, nL] at epr; cases epr) (zL _ _ epr))) (fun j x σ' G ex hh => ?_) (fun σ' G hh => ?_)
  · obtain ⟨sG, as, y2, y3, rfl, eL, la, ha⟩ := hh
    have hj : j < R.length := by rw [← lu]; exact (List.getElem?_eq_some_iff.mp ex).1
    have sHG : Same H G := fun b o hb => sG _ _ (fun e => by rw [show b = L from e, nL] at hb; cases hb) (zL _ _ hb)
    obtain ⟨pu, ve, ps, vs, e, ss, b1, b2, b3, b4, b5, b6, b7, b8, b9⟩ := row_at (ar.same sHG) ok hj
    rw [b1] at ex; cases ex
    refine ⟨pu, _, rfl, .of b2, rfl, ve, _, rfl, _, _, rfl, rfl, ?_⟩
    refine ⟨_, rfl, .inl ⟨rfl, _, .inl (.inl eL)⟩, _, rfl, ps, rfl, ⟨_, .of b3⟩, fun D2 hD2 => lc_tup (xs := vs) (fun j2 G2 => Same G G2 ∧ G2 D2 = some (.lst (((ss.take j2).filterMap freeT).map nV))) ⟨same_new hD2 _, upd_same⟩ (fun j2 G2 _ p2 => .of (p2.1 _ _ b3)) (fun j2 x2 G2 ex2 p2 => ?_) (fun G2 p2 => ?_)⟩
    · obtain ⟨sG2, eD2⟩ := p2
      have lj : j2 < ss.length := by rw [← b8.len]; exact (List.getElem?_eq_some_iff.mp ex2).1
      have lf : (((ss.take j2).filterMap freeT).map nV).length < sizeLine := by
        rw [List.length_map, sizeLine_eq]
        have := List.length_filterMap_le freeT (ss.take j2)
        rw [List.length_take] at this
        omega
      refine ⟨rfl, _, rfl, rfl, _, rfl, ?_⟩
      rcases st_get (b8.same sG2) b9 ex2 with ⟨f1, rfl⟩ | ⟨q2, m, s2, f1, rfl, f2, _, m0, m1, s0, s1⟩
      · refine iteF (iteF ⟨sG2, ?_⟩)
        rw [List.take_add_one, f1, List.filterMap_append]
        show G2 D2 = some (.lst (((List.take j2 ss).filterMap freeT ++ []).map nV))
        rw [List.append_nil]
        exact eD2
      · refine iteT ⟨_, rfl, q2, _, 0, .int m, rfl, rfl, .of f2, rfl, rfl, _, rfl, ?_⟩
        by_cases hm : m = 0
        · subst hm
          refine iteT ⟨_, rfl, q2, _, 1, .int s2, rfl, rfl, .of f2, rfl, _, eD2, lf, Same.upd_new sG2 hD2 _, ?_⟩
          rw [upd_same, List.take_add_one, f1, List.filterMap_append, List.map_append]
          show some (HO.lst (_ ++ [V.int s2])) = some (HO.lst (_ ++ [V.int ((s2.toNat : Nat) : Int)]))
          rw [show ((s2.toNat : Nat) : Int) = s2 by omega]
        · rw [show decide (V.int m = V.int 0) = false from decide_eq_false fun e => hm (by injection e)]
          refine iteF ⟨sG2, ?_⟩
          rw [List.take_add_one, f1, List.filterMap_append]
          rw [show (some (Th.tup [.int m, .int s2])).toList.filterMap freeT = [] by show ([Th.tup [.int m, .int s2]].filterMap freeT) = []; rw [free_one rfl, if_neg hm], List.append_nil]
          exact eD2
    · obtain ⟨sG2, eD2⟩ := p2
      rw [b8.len, List.take_length] at eD2
      have nDL : D2 ≠ L := fun e => by rw [e, eL] at hD2; cases hD2
      refine ⟨L, _, .ref D2, rfl, rfl, sG2 _ _ eL, by rw [List.length_map, la, sizeLine_eq]; omega, (sG.trans (.of sG2)).trans (.selfW _), as ++ [D2], _, _, rfl, by rw [upd_same, List.map_append]; rfl, by rw [List.length_append, la]; rfl, fun i a ws ei ew => ?_⟩
      rcases get_snoc ei with h | ⟨rfl, rfl⟩
      · obtain ⟨n, ea⟩ := ha i a ws h ew
        exact ⟨n, by rw [upd_ne n]; exact sG2 _ _ ea⟩
      · rw [la, fns_get b4] at ew
        cases ew
        exact ⟨nDL, by rw [upd_ne nDL]; exact eD2⟩
  obtain ⟨sG, as, y2, y3, rfl, eL, la, ha⟩ := hh
  have la' : as.length = R.length := by rw [la, lu]
  have sHG : Same H G := fun b o hb => sG _ _ (fun e => by rw [show b = L from e, nL] at hb; cases hb) (zL _ _ hb)
  have hw : ∀ x, x < R.length → ∃ a ws, as[x]? = some a ∧ (fns R)[x]? = some ws ∧ G a = some (.lst (ws.map nV)) := fun x hx => by
    have h1 : as[x]? = some (as[x]'(by omega)) := List.getElem?_eq_getElem _
    have h2 : (fns R)[x]? = some ((fns R)[x]'(by rw [fns_len]; exact hx)) := List.getElem?_eq_getElem _
    exact ⟨_, _, h1, h2, (ha x _ _ h1 h2).2⟩
  clear sG
  -- for begin
  refine ⟨_, rfl, L, _, rfl, .inl (.of eL), _, rfl, by rw [List.length_map]; omega, by rw [List.length_map]; omega, ?_⟩
  rw [List.length_map, la', Int.toNat_natCast]
  refine for_range (lo := 0) (n := R.length) (fun i σ' G' => Same G G' ∧ (∀ b, b < i → ¬ FR R b b) ∧ ∃ (y4 y5 y6 y7 : Option V), σ' = [some (.ref p), some (.ref L), y2, y3, y4, y5, y6, y7, none, none])
    ⟨Same.refl _, fun b h => absurd h (Nat.not_lt_zero _), none, none, none, none, rfl⟩ (fun i σ' G' hi hh => ?_) (fun σ' G' hh => ?_)
  · obtain ⟨s1, hno, y4, y5, y6, y7, rfl⟩ := hh
    obtain ⟨a, ws, e1, e2, e3⟩ := hw i hi
    have ei0 : (0 : Int) + ((i : Nat) : Int) = ((i : Nat) : Int) := Int.zero_add _
    rw [ei0]
    have e2' : ((fns R)[i]?).getD [] = ws := by rw [e2]; rfl
    refine ⟨_, rfl, _, rfl, L, _, _, .ref a, rfl, rfl, .of (s1 _ _ eL), atI_nat (get_map e1), a, _, rfl, .inl (.of (s1 _ _ e3)), fun Kn nK => ?_⟩
    have zK := same_new nK (.lst (ws.map nV))
    have gK0 : upd G' Kn (.lst (ws.map nV)) Kn = some (.lst (ws.map nV)) := upd_same
    have nKG : G Kn = none := Same.free s1 nK
    have s2 := s1.trans zK
    generalize upd G' Kn (.lst (ws.map nV)) = G2 at *
    have keep : ∀ {G3 : Hp}, SB (At1 Kn) G2 G3 → Same G G3 := fun sB b o hb => sB _ _ (fun e => by rw [show b = Kn from e, nKG] at hb; cases hb) (s2 _ _ hb)
    -- the rounds
    refine ⟨_, rfl, L, _, rfl, .inl (.of (s2 _ _ eL)), _, rfl, by rw [List.length_map]; omega, by rw [List.length_map]; omega, ?_⟩
    rw [List.length_map, la', Int.toNat_natCast]
    refine for_range (lo := 0) (n := R.length) (fun r σ' G3 => SB (At1 Kn) G2 G3 ∧ ∃ (l : List Nat) (y6 y7 : Option V), σ' = [some (.ref p), some (.ref L), y2, y3, some (nV i), some (.ref Kn), y6, y7, none, none] ∧ G3 Kn = some (.lst (l.map nV)) ∧ KR (fns R) i r l)
      ⟨.rfl', ws, _, _, rfl, gK0, e2' ▸ KR.zero (fns_lt ok) (fns_8 ok i)⟩ (fun r σ' G3 hr3 hh => ?_) (fun σ' G3 hh => ?_)
    · obtain ⟨sB, l, y6, y7, rfl, eK, kr⟩ := hh
      have l8 : l.length ≤ 248 := by
        have := kr.len
        have := dcnt_le (fns R).length l
        rw [fns_len] at *
        omega
      refine ⟨_, rfl, Kn, _, rfl, .inl (.of eK), fun Sn nS => ⟨Sn, rfl, ⟨_, .of upd_same⟩, ?_⟩⟩
      have zS := same_new nS (.lst (l.map nV))
      have eS : upd G3 Sn (.lst (l.map nV)) Sn = some (.lst (l.map nV)) := upd_same
      have eK4 := zS _ _ eK
      have sB4 : SB (At1 Kn) G2 (upd G3 Sn (.lst (l.map nV))) := sB.trans (.of zS)
      have nSK : Sn ≠ Kn := fun e => by rw [e, eK] at nS; cases nS
      generalize upd G3 Sn (.lst (l.map nV)) = G4 at *
      refine for_list (K := K) (a := Sn) (xs := l.map nV) (fun j σ' G5 => SB (At1 Kn) G4 G5 ∧ ∃ (l2 : List Nat) (y7 : Option V), σ' = [some (.ref p), some (.ref L), y2, y3, some (nV i), some (.ref Kn), some (.int (0 + (r : Nat))), y7, none, none] ∧ G5 Kn = some (.lst (l2.map nV)) ∧ KRj (fns R) i j l l2)
        ⟨.rfl', l, _, rfl, eK4, kr.start⟩ (fun j σ' G5 _ hh => .of (hh.1 _ _ nSK eS)) (fun j x σ' G5 ex hh => ?_) (fun σ' G5 hh => ?_)
      · obtain ⟨s5, l2, y7, rfl, eK5, krj⟩ := hh
        obtain ⟨st, est, rfl⟩ := map_get ex
        have hst : st < R.length := by
          have := krj.snd st (krj.sub st (List.mem_of_getElem? est))
          exact FR.lt ok (a := i) this
        obtain ⟨a2, ws2, f1, f2, f3⟩ := hw st hst
        have f2' : ((fns R)[st]?).getD [] = ws2 := by rw [f2]; rfl
        have k5 := keep (sB4.trans s5)
        have l28 : l2.length ≤ 248 := by
          have := krj.len
          have := dcnt_le (fns R).length l2
          rw [fns_len] at *
          omega
        have w8 := fns_8 ok st
        rw [f2'] at w8
        refine ⟨_, rfl, .inl ⟨rfl, _, .inl (.inl eK5)⟩, _, rfl, _, rfl, L, _, _, .ref a2, rfl, rfl, .of (k5 _ _ eL), atI_nat (get_map f1), a2, rfl, ⟨_, .of (k5 _ _ f3)⟩, fun D2 nD2 => lc_list (K := K) (a := a2) (xs := ws2.map nV) (fun j2 G6 => Same G5 G6 ∧ G6 D2 = some (.lst (((ws2.take j2).filter fun t => decide (t ∉ l2)).map nV))) ⟨same_new nD2 _, upd_same⟩ (fun j2 G6 _ p2 => .of (p2.1 _ _ (k5 _ _ f3))) (fun j2 x2 G6 ex2 p2 => ?_) (fun G6 p2 => ?_)⟩
        · obtain ⟨s6, eD2⟩ := p2
          obtain ⟨t, et, rfl⟩ := map_get ex2
          have lj := (List.getElem?_eq_some_iff.mp et).1
          refine ⟨rfl, _, rfl, _, rfl, Kn, _, rfl, .inl (.of (s6 _ _ eK5)), rfl, flat_ns _, _, rfl, ?_⟩
          rw [inV_ns]
          by_cases hin : t ∈ l2
          · rw [decide_eq_true hin]
            refine iteF ⟨s6, ?_⟩
            rw [List.take_add_one, et, List.filter_append, show (some t).toList.filter (fun t => decide (t ∉ l2)) = [] by simp [hin], List.append_nil]
            exact eD2
          · rw [decide_eq_false hin]
            refine iteT ⟨_, rfl, _, eD2, by
              rw [List.length_map, sizeLine_eq]
              have := List.length_filter_le (fun t => decide (t ∉ l2)) (ws2.take j2)
              rw [List.length_take] at this
              omega, Same.upd_new s6 nD2 _, ?_⟩
            rw [upd_same, List.take_add_one, et, List.filter_append, List.map_append, show (some t).toList.filter (fun t => decide (t ∉ l2)) = [t] by simp [hin]]
            rfl
        · obtain ⟨s6, eD2⟩ := p2
          rw [List.length_map, List.take_length] at eD2
          have lf := List.length_filter_le (fun t => decide (t ∉ l2)) ws2
          refine ⟨Kn, D2, _, _, rfl, rfl, s6 _ _ eK5, eD2, by rw [List.length_map, List.length_map, sizeLine_eq]; omega, (s5.trans (.of s6)).trans (.selfW _), l2 ++ ws2.filter (fun t => decide (t ∉ l2)), _, rfl, by rw [upd_same, List.map_append], krj.step est (by omega) (fun x => by rw [List.mem_filter, f2', decide_eq_true_eq]) (fun t mt => fns_lt ok st ws2 f2 t (by rw [← f2']; exact mt))⟩
      · obtain ⟨s5, l2, y7, rfl, eK5, krj⟩ := hh
        rw [List.length_map] at krj
        exact ⟨sB4.trans s5, l2, _, _, rfl, eK5, krj.done kr (fns_lt ok)⟩
    · obtain ⟨sB, l, y6, y7, rfl, eK, kr⟩ := hh
      have l8 : l.length ≤ 248 := by
        have := kr.len
        have := dcnt_le (fns R).length l
        rw [fns_len] at *
        omega
      have hin : i ∈ l ↔ FR R i i := KR.fin (by rw [fns_len]; exact kr) i
      refine ⟨_, rfl, _, rfl, Kn, _, rfl, .inl (.of eK), rfl, flat_ns _, _, rfl, ?_⟩
      rw [inV_ns]
      by_cases hi2 : i ∈ l
      · rw [decide_eq_true hi2]
        exact iteT (q true G3 (sHG.trans (keep sB)) ⟨(fun h => nomatch h), fun h => absurd (hin.mp hi2) (h i hi)⟩)
      · rw [decide_eq_false hi2]
        refine iteF ⟨keep sB, fun b hb => ?_, _, _, _, _, rfl⟩
        by_cases e : b = i
        · rw [e]; exact fun h => hi2 (hin.mpr h)
        · exact hno b (by omega)
  · obtain ⟨s1, hno, _⟩ := hh
    exact q false G' (sHG.trans s1) ⟨fun _ => hno, fun _ => rfl⟩
end
end KL
end
section
namespace KL
open PySem PySem.Spec PyProof.Rows L2
/-! ### things of tuples alone stay where a list is changed -/
mutual
def noL : Th → Bool
  | .lst _ => false
  | .dic _ => false
  | .tup xs => noLs xs
  | .non | .bl _ | .int _ | .str _ => true
def noLs : List Th → Bool
  | [] => true
  | x :: xs => noL x && noLs xs
end
mutual
theorem At.off {Z : Zone} {H : Hp} {L : Addr} {xs ys : List V} (eL : H L = some (.lst xs)) : ∀ {d : Th} {v : V}, noL d = true → At Z H d v → At Z (upd H L (.lst ys)) d v
  | .non, _, _, h => h
  | .bl _, _, _, h => h
  | .int _, _, _, h => h
  | .str _, _, _, h => h
  | .tup _, _, n, ⟨a, vs, e, na, h, t⟩ => ⟨a, vs, e, na, by rw [upd_ne (ne_of h eL (by intro z; cases z))]; exact h, AtAll.off eL n t⟩
theorem AtAll.off {Z : Zone} {H : Hp} {L : Addr} {xs ys : List V} (eL : H L = some (.lst xs)) : ∀ {ds : List Th} {vs : List V}, noLs ds = true → AtAll Z H ds vs → AtAll Z (upd H L (.lst ys)) ds vs
  | [], _, _, h => h
  | x :: xs', _, n, ⟨u, us, e, h, t⟩ => by
    rw [noLs, Bool.and_eq_true] at n
    exact ⟨u, us, e, At.off eL n.1 h, AtAll.off eL n.2 t⟩
end
theorem noLs_of {ds : List Th} (h : ∀ d ∈ ds, noL d = true) : noLs ds = true := by
  induction ds with
  | nil => rfl
  | cons d r ih => rw [noLs, h d List.mem_cons_self, ih fun x m => h x (List.mem_cons_of_mem _ m)]; rfl
theorem StepIs.noL {n : Int} {st : Th} (h : StepIs n st) : noL st = true := by
  rcases h with rfl | ⟨m, s, rfl, _⟩ <;> rfl
theorem MOk.noL {z : Int} {rows : List Th} (ok : MOk z rows) : noLs rows = true := noLs_of fun r m => by
  obtain ⟨e, ss, rfl, h1, h2, h3⟩ := rowB_is (ok.r r m)
  have hs : noLs ss = true := noLs_of fun st ms => (h3 st ms).noL
  have he : KL.noL e = true := by rcases h1 with rfl | ⟨i, rfl, _⟩ <;> rfl
  show (KL.noL e && (KL.noL (.tup ss) && true)) = true
  rw [he, show KL.noL (.tup ss) = noLs ss from rfl, hs]
  rfl
end KL
end
section
set_option maxHeartbeats 1000000
namespace KL
open PySem PySem.Spec PyProof.Rows L2
abbrev sc_Counts___init__N : List Str := ["self", "machine", "end", "steps"]
abbrev s_Counts___init__ : Stmt := inClass (topS 41) 0
theorem sc_Counts___init__ : FnScope ["self", "machine", "end", "steps"] ["self", "machine"] (defScope s_Counts___init__) := ⟨rfl, rfl, rfl, by decide +kernel, rfl, by decide +kernel, by decide +kernel⟩
abbrev sc_Counts_of_lengthN : List Str := ["self", "bits"]
abbrev s_Counts_of_length : Stmt := inClass (topS 41) 1
theorem sc_Counts_of_length : FnScope ["self", "bits"] ["self", "bits"] (defScope s_Counts_of_length) := ⟨rfl, rfl, rfl, by decide +kernel, rfl, by decide +kernel, by decide +kernel⟩
abbrev sc_Counts_behindN : List Str := ["self", "step", "bits", "more", "state"]
abbrev s_Counts_behind : Stmt := inClass (topS 41) 2
theorem sc_Counts_behind : FnScope ["self", "step", "bits", "more", "state"] ["self", "step", "bits"] (defScope s_Counts_behind) := ⟨rfl, rfl, rfl, by decide +kernel, rfl, by decide +kernel, by decide +kernel⟩
abbrev sc_Counts_growN : List Str := ["self", "bits", "counted", "state", "number", "more", "after", "letters"]
abbrev s_Counts_grow : Stmt := inClass (topS 41) 3
theorem sc_Counts_grow : FnScope ["self", "bits", "counted", "state", "number", "more", "after", "letters"] ["self"] (defScope s_Counts_grow) := ⟨rfl, rfl, rfl, by decide +kernel, rfl, by decide +kernel, by decide +kernel⟩
theorem nWR : ¬ (("ways" : Str) = "rows") := by decide +kernel
theorem nOR : ¬ (("order" : Str) = "rows") := by decide +kernel
theorem nTR : ¬ (("table" : Str) = "rows") := by decide +kernel
theorem nOW : ¬ (("order" : Str) = "ways") := by decide +kernel
theorem nTW : ¬ (("table" : Str) = "ways") := by decide +kernel
theorem nTO : ¬ (("table" : Str) = "order") := by decide +kernel
/-- the attributes, as __init__ stores them -/
def flC (pr aw ao tb : Addr) : List (Str × V) := putF "table" (.ref tb) (putF "order" (.ref ao) (putF "ways" (.ref aw) (putF "rows" (.ref pr) [])))
theorem flC_rows (pr aw ao tb : Addr) : (flC pr aw ao tb).lookup ("rows" : Str) = some (.ref pr) := by
  unfold flC
  rw [lookup_putF, if_neg (fun e => nTR e.symm), lookup_putF, if_neg (fun e => nOR e.symm), lookup_putF, if_neg (fun e => nWR e.symm), lookup_putF, if_pos rfl]
theorem flC_ways (pr aw ao tb : Addr) : (flC pr aw ao tb).lookup ("ways" : Str) = some (.ref aw) := by
  unfold flC
  rw [lookup_putF, if_neg (fun e => nTW e.symm), lookup_putF, if_neg (fun e => nOW e.symm), lookup_putF, if_pos rfl]
theorem flC_order (pr aw ao tb : Addr) : (flC pr aw ao tb).lookup ("order" : Str) = some (.ref ao) := by
  unfold flC
  rw [lookup_putF, if_neg (fun e => nTO e.symm), lookup_putF, if_pos rfl]
theorem flC_table (pr aw ao tb : Addr) : (flC pr aw ao tb).lookup ("table" : Str) = some (.ref tb) := by
  unfold flC
  rw [lookup_putF, if_pos rfl]
theorem flC_no (pr aw ao tb : Addr) {m : Str} (h1 : ¬ m = "table") (h2 : ¬ m = "order") (h3 : ¬ m = "ways") (h4 : ¬ m = "rows") : (flC pr aw ao tb).lookup m = none := by
  unfold flC
  rw [lookup_putF, if_neg h1, lookup_putF, if_neg h2, lookup_putF, if_neg h3, lookup_putF, if_neg h4]
  rfl
theorem putF_le (f : Str) (v : V) : ∀ fs : List (Str × V), (putF f v fs).length ≤ fs.length + 1
  | [] => Nat.le_refl _
  | (a, b) :: r => by
    show (if a = f then (a, v) :: r else (a, b) :: putF f v r).length ≤ _
    split
    · simp
    · have := putF_le f v r
      simp only [List.length_cons]
      omega
/-- what the class is to the program -/
structure CoC (K : PySem.W.Frag) (C : Addr) : Prop where
  cl : Cls K C
  nR : NoAttr K C "rows"
  nW : NoAttr K C "ways"
  nO : NoAttr K C "order"
  nT : NoAttr K C "table"
/-- a Counts object: its class, the machine, its address, its table's, how long that is -/
structure CoAt (C : Addr) (zi : Int) (R : List Th) (H : Hp) (p tb : Addr) (j : Nat) : Prop where
  ob : ∃ (dx pr aw ao : Addr) (us : List V) (as : List Addr) (ord : List Nat) (ts : List Addr), H p = some (.ins C dx (flC pr aw ao tb)) ∧ H pr = some (.tup us) ∧ AtAll (At1 tb) H R us ∧
    H aw = some (.lst (as.map V.ref)) ∧ as.length = R.length ∧ (∀ (s : Nat) (a : Addr) (r : Th), as[s]? = some a → R[s]? = some r → ∃ gs : List G3, G3At H a gs ∧ a ≠ tb ∧ gs.length ≤ 8 ∧ (∀ g ∈ gs, g.1 ≤ 60 ∧ (g.2.1 : Int) < (R.length : Int) ∧ g.2.2 ≤ 8) ∧ (∀ f, gSum gs f = sSum (stepsOf r) f) ∧ ∀ g ∈ gs, Th.tup [.int (g.1 : Nat), .int (g.2.1 : Nat)] ∈ stepsOf r) ∧
    H ao = some (.lst (ord.map nV)) ∧ TurnOk R ord ∧ ord.length = R.length ∧ aw ≠ tb ∧ ao ≠ tb ∧
    H tb = some (.lst (ts.map V.ref)) ∧ ts.length = j ∧ ∀ (b : Nat) (a : Addr), ts[b]? = some a → a ≠ tb ∧ H a = some (.lst ((List.range R.length).map fun s => nV (ctN R zi.toNat b s)))
theorem CoAt.same {C : Addr} {zi : Int} {R : List Th} {H H' : Hp} {p tb : Addr} {j : Nat} (h : CoAt C zi R H p tb j) (s : Same H H') : CoAt C zi R H' p tb j := by
  obtain ⟨dx, pr, aw, ao, us, as, ord, ts, e1, e2, e3, e4, e5, e6, e7, e8, e9, e10, e11, e12, e13, e14⟩ := h.ob
  refine ⟨dx, pr, aw, ao, us, as, ord, ts, s _ _ e1, s _ _ e2, e3.same s, s _ _ e4, e5, fun i a r ea er => ?_, s _ _ e7, e8, e9, e10, e11, s _ _ e12, e13, fun b a ea => ⟨(e14 b a ea).1, s _ _ (e14 b a ea).2⟩⟩
  obtain ⟨gs, ⟨bs, q1, q2, q3⟩, r⟩ := e6 i a r ea er
  exact ⟨gs, ⟨bs, s _ _ q1, q2, fun i b g eb eg => s _ _ (q3 i b g eb eg)⟩, r⟩
/-- lists that are none of the object's own -/
structure CoZn (Zn : Zone) (C : Addr) (H : Hp) (p tb : Addr) : Prop where
  z : ∀ (dx pr aw ao : Addr) (as ts : List Addr), H p = some (.ins C dx (flC pr aw ao tb)) → H aw = some (.lst (as.map V.ref)) → H tb = some (.lst (ts.map V.ref)) → ¬ Zn aw ∧ ¬ Zn ao ∧ ¬ Zn tb ∧ (∀ a ∈ as, ¬ Zn a) ∧ ∀ a ∈ ts, ¬ Zn a
theorem CoZn.no (C : Addr) (H : Hp) (p tb : Addr) : CoZn (fun _ => False) C H p tb := ⟨fun _ _ _ _ _ _ _ _ _ => ⟨id, id, id, fun _ _ => id, fun _ _ => id⟩⟩
/-- the table's new row while it is filled: those states that come first -/
def rowC (R : List Th) (z b : Nat) (dn : List Nat) : List Int := (List.range R.length).map fun s => if s ∈ dn then (ctN R z b s : Int) else 0
theorem rowC_get {R : List Th} {z b s : Nat} {dn : List Nat} (hs : s < R.length) : (rowC R z b dn)[s]? = some (if s ∈ dn then (ctN R z b s : Int) else 0) := by
  unfold rowC
  rw [List.getElem?_map, List.getElem?_range hs]
  rfl
theorem rowC_set {R : List Th} {z b s : Nat} {dn : List Nat} (hs : s < R.length) : (rowC R z b dn).set s (ctN R z b s : Int) = rowC R z b (dn ++ [s]) := by
  refine List.ext_getElem? fun i => ?_
  rw [List.getElem?_set]
  split
  · next e =>
    subst e
    rw [if_pos (by unfold rowC; simpa using hs), rowC_get hs, if_pos (by simp)]
  · next e =>
    by_cases hi : i < R.length
    · rw [rowC_get hi, rowC_get hi]
      have : (i ∈ dn ++ [s]) ↔ i ∈ dn := by simp; omega
      simp only [this]
    · rw [List.getElem?_eq_none (by unfold rowC; simp; omega), List.getElem?_eq_none (by unfold rowC; simp; omega)]
theorem rowC_all {R : List Th} {z b : Nat} {dn : List Nat} (h : ∀ s, s < R.length → s ∈ dn) : (rowC R z b dn).map V.int = (List.range R.length).map fun s => nV (ctN R z b s) := by
  unfold rowC
  rw [List.map_map]
  refine List.map_congr_left fun s m => ?_
  show V.int (if s ∈ dn then _ else _) = _
  rw [if_pos (h s (List.mem_range.mp m))]
theorem rowC_nil (R : List Th) (z b : Nat) : rowC R z b [] = List.replicate R.length 0 := by
  unfold rowC
  refine List.ext_getElem? fun i => ?_
  rw [List.getElem?_map, List.getElem?_replicate]
  by_cases hi : i < R.length
  · rw [List.getElem?_range hi, if_pos hi]
    rfl
  · rw [List.getElem?_eq_none (by simp; omega), if_neg hi]
    rfl
theorem ctN_rec {zi : Int} {rows : List Th} (ok : MOk zi rows) (nf : NoR rows) (z b s : Nat) : ctN rows z b s = (if finN rows s = some b then 1 else 0) + ((List.range z).map fun l => cst rows z b (stp rows s l)).sum := cnt_rec ok nf z b s
theorem cstE (rows : List Th) (z b m t : Nat) : cst rows z b (some (m, t)) = if m ≤ b then ctN rows z (b - m) t else 0 := rfl
theorem sSum_cst {z : Int} {R : List Th} (ok : MOk z R) {s b : Nat} {r : Th} (er : R[s]? = some r) : sSum (stepsOf r) (fun m t => cst R z.toNat b (some (m, t))) = ((List.range z.toNat).map fun l => cst R z.toNat b (stp R s l)).sum := by
  obtain ⟨e, ss, er', h1, h2, h3⟩ := ok.row (List.getElem?_eq_some_iff.mp er).1
  rw [er] at er'
  cases er'
  show sSum ss _ = _
  unfold sSum
  rw [show z.toNat = ss.length by omega, ← range_map_get (stV fun m t => cst R ss.length b (some (m, t))) Th.non ss]
  congr 1
  refine List.map_congr_left fun l ml => ?_
  have hl := List.mem_range.mp ml
  have e1 : stepAt R s l = (ss[l]?).getD .non := by unfold stepAt; rw [er]; rfl
  rw [stp, e1]
  have e2 : ss[l]? = some ss[l] := List.getElem?_eq_getElem hl
  rw [e2]
  rcases h3 ss[l] (List.getElem_mem hl) with q | ⟨m, t, q, _⟩
  · rw [q]; rfl
  · rw [q]; rfl
theorem end_eq {z : Int} {R ss : List Th} {s j : Nat} {e : Th} {ve : V} (ok : MOk z R) (er : R[s]? = some (.tup [e, .tup ss])) (b6 : (e = .non ∧ ve = .non) ∨ ∃ i, e = .int i ∧ ve = .int i) : scal ve (.int (j : Nat)) = true ∧ decide (ve = .int (j : Nat)) = decide (finN R s = some j) := by
  unfold finN
  rw [er]
  rcases b6 with ⟨rfl, rfl⟩ | ⟨i, rfl, rfl⟩
  · exact ⟨rfl, rfl⟩
  · refine ⟨rfl, decide_eq_decide.mpr ?_⟩
    show V.int i = V.int (j : Nat) ↔ some i.toNat = some j
    obtain ⟨en, ss', er', h1, _⟩ := ok.row (List.getElem?_eq_some_iff.mp er).1
    rw [er] at er'
    injection er' with er'
    injection er' with er'
    injection er' with er1 er2
    have hi : 1 ≤ i := by
      rcases h1 with h | ⟨i', h, h1, _⟩
      · rw [h] at er1; cases er1
      · rw [h] at er1; injection er1 with er1; omega
    constructor
    · intro h; injection h with h; subst h; rfl
    · intro h; injection h with h; congr 1; omega
theorem flC_inj {pr aw ao tb pr' aw' ao' : Addr} (h : flC pr aw ao tb = flC pr' aw' ao' tb) : aw = aw' ∧ ao = ao' := by
  have h1 : (flC pr aw ao tb).lookup ("ways" : Str) = (flC pr' aw' ao' tb).lookup ("ways" : Str) := by rw [h]
  have h2 : (flC pr aw ao tb).lookup ("order" : Str) = (flC pr' aw' ao' tb).lookup ("order" : Str) := by rw [h]
  rw [flC_ways, flC_ways] at h1
  rw [flC_order, flC_order] at h2
  injection h1 with h1; injection h1 with h1
  injection h2 with h2; injection h2 with h2
  exact ⟨h1, h2⟩
theorem refs_inj {xs ys : List Addr} (h : xs.map V.ref = ys.map V.ref) : xs = ys := by
  induction xs generalizing ys with
  | nil => cases ys with
    | nil => rfl
    | cons y r => cases h
  | cons x r ih => cases ys with
    | nil => cases h
    | cons y r' =>
      injection h with h1 h2
      injection h1 with h1
      rw [h1, ih h2]
theorem CoZn.grown {Zn : Zone} {C : Addr} {H H' : Hp} {p tb dx pr aw ao cl : Addr} {as ts : List Addr} (hzt : ∀ a, Zn a → Trk H a) (h : CoZn Zn C H p tb) (e1 : H p = some (.ins C dx (flC pr aw ao tb))) (e4 : H aw = some (.lst (as.map V.ref))) (e12 : H tb = some (.lst (ts.map V.ref)))
    (g1 : H' p = some (.ins C dx (flC pr aw ao tb))) (g4 : H' aw = some (.lst (as.map V.ref))) (g12 : H' tb = some (.lst ((ts ++ [cl]).map V.ref))) (n : H cl = none) : CoZn Zn C H' p tb where
  z := fun dx' pr' aw' ao' as' ts' k1 k4 k12 => by
    obtain ⟨h1, h2, h3, h4, h5⟩ := h.z _ _ _ _ _ _ e1 e4 e12
    rw [g1] at k1
    injection k1 with k1; injection k1 with _ k1b k1c
    obtain ⟨rfl, rfl⟩ := flC_inj k1c
    rw [g4] at k4
    injection k4 with k4; injection k4 with k4
    obtain rfl := refs_inj k4
    rw [g12] at k12
    injection k12 with k12; injection k12 with k12
    obtain rfl := refs_inj k12
    refine ⟨h1, h2, h3, h4, fun a m => ?_⟩
    rcases List.mem_append.mp m with m | m
    · exact h5 a m
    · rw [List.mem_singleton.mp m]
      exact fun z => hzt cl z n
theorem CoZn.same {Zn : Zone} {C : Addr} {zi : Int} {R : List Th} {H H' : Hp} {p tb : Addr} {j : Nat} (hz : CoZn Zn C H p tb) (h : CoAt C zi R H p tb j) (s : Same H H') : CoZn Zn C H' p tb where
  z := fun dx' pr' aw' ao' as' ts' q1 q4 q12 => by
    obtain ⟨dx, pr, aw, ao, us, as, ord, ts, e1, e2, e3, e4, e5, e6, e7, e8, e9, e10, e11, e12, e13, e14⟩ := h.ob
    obtain ⟨h1, h2, h3, h4, h5⟩ := hz.z _ _ _ _ _ _ e1 e4 e12
    rw [s _ _ e1] at q1
    injection q1 with q1; injection q1 with _ q1b q1c
    obtain ⟨rfl, rfl⟩ := flC_inj q1c
    rw [s _ _ e4] at q4
    injection q4 with q4; injection q4 with q4
    obtain rfl := refs_inj q4
    rw [s _ _ e12] at q12
    injection q12 with q12; injection q12 with q12
    obtain rfl := refs_inj q12
    exact ⟨h1, h2, h3, h4, h5⟩
theorem CoAt.zn {Zn : Zone} {C : Addr} {zi : Int} {R : List Th} {H : Hp} {p tb : Addr} {j : Nat} (h : CoAt C zi R H p tb j) (hn : ∀ a, Zn a → H a = none) : CoZn Zn C H p tb where
  z := fun dx' pr' aw' ao' as' ts' q1 q4 q12 => by
    obtain ⟨dx, pr, aw, ao, us, as, ord, ts, e1, e2, e3, e4, e5, e6, e7, e8, e9, e10, e11, e12, e13, e14⟩ := h.ob
    rw [e1] at q1
    injection q1 with q1; injection q1 with _ q1b q1c
    obtain ⟨rfl, rfl⟩ := flC_inj q1c
    rw [e4] at q4
    injection q4 with q4; injection q4 with q4
    obtain rfl := refs_inj q4
    rw [e12] at q12
    injection q12 with q12; injection q12 with q12
    obtain rfl := refs_inj q12
    have no : ∀ {a : Addr} {o : HO}, H a = some o → ¬ Zn a := fun e z => by rw [hn _ z] at e; cases e
    refine ⟨no e4, no e7, no e12, fun a m => ?_, fun a m => ?_⟩
    · obtain ⟨i, ei⟩ := List.mem_iff_getElem?.mp m
      have hi := (List.getElem?_eq_some_iff.mp ei).1
      obtain ⟨gs, ⟨bs, k1, _⟩, _⟩ := e6 i a _ ei (List.getElem?_eq_getElem (by omega))
      exact no k1
    · obtain ⟨i, ei⟩ := List.mem_iff_getElem?.mp m
      exact no (e14 i a ei).2
theorem CoAt.off {Zn : Zone} {C : Addr} {zi : Int} {R : List Th} {H : Hp} {p tb L : Addr} {j : Nat} {xs ys : List V} (ok : MOk zi R) (h : CoAt C zi R H p tb j) (hz : CoZn Zn C H p tb) (zL : Zn L) (eL : H L = some (.lst xs)) : CoAt C zi R (upd H L (.lst ys)) p tb j ∧ CoZn Zn C (upd H L (.lst ys)) p tb := by
  obtain ⟨dx, pr, aw, ao, us, as, ord, ts, e1, e2, e3, e4, e5, e6, e7, e8, e9, e10, e11, e12, e13, e14⟩ := h.ob
  obtain ⟨h1, h2, h3, h4, h5⟩ := hz.z _ _ _ _ _ _ e1 e4 e12
  have np : p ≠ L := ne_of e1 eL (by intro z; cases z)
  have npr : pr ≠ L := ne_of e2 eL (by intro z; cases z)
  have naw : aw ≠ L := fun e => h1 (by rw [e]; exact zL)
  have nao : ao ≠ L := fun e => h2 (by rw [e]; exact zL)
  have nt : tb ≠ L := fun e => h3 (by rw [e]; exact zL)
  have k1 : upd H L (.lst ys) p = some (.ins C dx (flC pr aw ao tb)) := by rw [upd_ne np]; exact e1
  have k4 : upd H L (.lst ys) aw = some (.lst (as.map V.ref)) := by rw [upd_ne naw]; exact e4
  have k12 : upd H L (.lst ys) tb = some (.lst (ts.map V.ref)) := by rw [upd_ne nt]; exact e12
  refine ⟨⟨dx, pr, aw, ao, us, as, ord, ts, k1, by rw [upd_ne npr]; exact e2, AtAll.off eL ok.noL e3, k4, e5, fun i a r ea er => ?_, by rw [upd_ne nao]; exact e7, e8, e9, e10, e11, k12, e13, fun b a ea => ?_⟩, ⟨fun dx' pr' aw' ao' as' ts' q1 q4 q12 => ?_⟩⟩
  · obtain ⟨gs, ⟨bs, q1, q2, q3⟩, na, r⟩ := e6 i a r ea er
    have n : a ≠ L := fun e => h4 a (List.mem_of_getElem? ea) (by rw [e]; exact zL)
    exact ⟨gs, ⟨bs, by rw [upd_ne n]; exact q1, q2, fun i b g eb eg => by
      have e := q3 i b g eb eg
      rw [upd_ne (ne_of e eL (by intro z; cases z))]; exact e⟩, na, r⟩
  · have n : a ≠ L := fun e => h5 a (List.mem_of_getElem? ea) (by rw [e]; exact zL)
    exact ⟨(e14 b a ea).1, by rw [upd_ne n]; exact (e14 b a ea).2⟩
  · rw [k1] at q1
    injection q1 with q1; injection q1 with _ q1b q1c
    obtain ⟨rfl, rfl⟩ := flC_inj q1c
    rw [k4] at q4
    injection q4 with q4; injection q4 with q4
    obtain rfl := refs_inj q4
    rw [k12] at q12
    injection q12 with q12; injection q12 with q12
    obtain rfl := refs_inj q12
    exact ⟨h1, h2, h3, h4, h5⟩
def spGrow (C : Addr) : Sp := fun vs H Q _ => ∃ (p tb : Addr) (zi : Int) (R : List Th) (j : Nat) (Zn : Zone), vs = [.ref p] ∧ CoAt C zi R H p tb j ∧ MOk zi R ∧ NoR R ∧ j ≤ 100000 ∧ (∀ a, Zn a → Trk H a) ∧ CoZn Zn C H p tb ∧ ∀ H', SB (At1 tb) H H' → CoAt C zi R H' p tb (j + 1) → CoZn Zn C H' p tb → Q .non H'
section
variable {P : Program} {w : World} {K : PySem.W.Frag} {mg : Str → Option Value} {base : Heap} {k : Nat} {C : Addr}
theorem ok_Counts_grow (Z : Zs mg) (T : CoC K C) (d : MDef K C "grow" "Counts.grow" s_Counts_grow ["self"]) : MCal P w K mg base CX0 (k + 1) C "grow" ["self"] (spGrow C) := by
  refine d.ok T.cl sc_Counts_grow (fun vs H Q E h => ?_) (fun f cdv A outer s H vs Q E hr h => ?_)
  · obtain ⟨_, _, _, _, _, _, rfl, _⟩ := h; rfl
  obtain ⟨p, tb, zi, R, j, Zn, rfl, co, ok, nf, hj, hzt, hzn, q⟩ := h
  refine ⟨_, (pss_cons (ps_set (i := 1) sc_Counts_grow.nd rfl (Or.inl rfl) (pe_callB (id := "len") call_len_seq (by rfl) Z.len (by decide +kernel) (pa_cons (pe_fld (pv 0) rfl) pa_nil)))
      (pss_cons (ps_set (i := 2) sc_Counts_grow.nd rfl (Or.inl rfl) (pe_op op_rep (pe_lst (pa_cons pe_int pa_nil)) (pe_callB (id := "len") call_len_seq (by rfl) Z.len (by decide +kernel) (pa_cons (pe_fld (pv 0) rfl) pa_nil))))
      (pss_cons (ps_expr (pe_bm PySem.F.plainAttrs_list PySem.F.slot_list_append PySem.F.type_list_append mt_append (pe_fld (pv 0) rfl) (pa_cons (pv 2) pa_nil)))
      (pss_one (ps_for PassesOwn.never rfl (pi_list (pe_fld (pv 0) rfl)) (pg_name (i := 3) sc_Counts_grow.nd rfl (Or.inl rfl)) (pss_cons (ps_set (i := 4) sc_Counts_grow.nd rfl (Or.inl rfl) (pe_ifExp (pt_cmpR op_eq (pe_ix ix_tup (pe_ix ix_tup (pe_fld (pv 0) rfl) (pv 3) (fun _ _ => rfl)) pe_int (fun _ _ => rfl)) (pv 1) (nomark _)) pe_int pe_int))
      (pss_cons (ps_for PassesOwn.never rfl (pi_list (pe_ix ix_list (pe_fld (pv 0) rfl) (pv 3) (fun _ _ => rfl))) (pg_tup (by rfl) (pgs_cons (pg_name (i := 5) sc_Counts_grow.nd rfl (Or.inl rfl)) (pgs_cons (pg_name (i := 6) sc_Counts_grow.nd rfl (Or.inl rfl)) (pgs_cons (pg_name (i := 7) sc_Counts_grow.nd rfl (Or.inl rfl)) pgs_nil)))) (pss_one (ps_if (pt_cmpR op_le (pv 5) (pv 1) (nomark _)) (pss_one (ps_aug (i := 4) sc_Counts_grow.nd rfl (Or.inl rfl) (pe_op op_mul (pv 7) (pe_ix ix_list (pe_ix ix_list (pe_fld (pv 0) rfl) (pe_op op_sub (pv 1) (pv 5)) (fun _ _ => rfl)) (pv 6) (fun _ _ => rfl))) ip_add)) pss_nil)))
      (pss_one (ps_asg (pv 4) (pg_sub (pv 2) (pv 3) set_list)))))))))), ?_⟩
  obtain ⟨dx, pr, aw, ao, us, as, ord, ts, e1, e2, e3, e4, e5, e6, e7, e8, e9, e10, e11, e12, e13, e14⟩ := co.ob
  have n30 := ok.n30
  have lu := e3.len
  have npt : p ≠ tb := ne_of e1 e12 (by intro z; cases z)
  have nprt : pr ≠ tb := ne_of e2 e12 (by intro z; cases z)
  -- bits, counted
  refine ⟨_, rfl, p, C, dx, _, _, rfl, e1, T.cl, T.nT, flC_table _ _ _ _, tb, _, rfl, .inl (.of e12), ?_⟩
  rw [List.length_map, e13]
  refine ⟨(by show 1 ≤ sizeLine; decide), fun L0 nL0 => ?_⟩
  have z0 := same_new nL0 (.lst [V.int 0])
  have eL0 : upd H L0 (.lst [V.int 0]) L0 = some (.lst [V.int 0]) := upd_same
  generalize upd H L0 (.lst [V.int 0]) = H0 at *
  refine ⟨_, rfl, p, C, dx, _, _, rfl, z0 _ _ e1, T.cl, T.nR, flC_rows _ _ _ _, pr, us, rfl, .inr (.of (z0 _ _ e2)), L0, _, _, rfl, rfl, eL0, by omega, by omega, (by show 1 * ((us.length : Nat) : Int).toNat ≤ sizeLine; rw [sizeLine_eq]; omega), fun cl ncl => ?_⟩
  have zc := same_new ncl (.lst ((rowC R zi.toNat j []).map V.int))
  have erep : (List.replicate ((us.length : Nat) : Int).toNat [V.int 0]).flatten = (rowC R zi.toNat j []).map V.int := by
    rw [rowC_nil, lu, Int.toNat_natCast, List.map_replicate]
    generalize R.length = n
    induction n with
    | zero => rfl
    | succ n ih => rw [List.replicate_succ, List.replicate_succ, List.flatten_cons, ih]; rfl
  rw [erep]
  have ecl : upd H0 cl (.lst ((rowC R zi.toNat j []).map V.int)) cl = some (.lst ((rowC R zi.toNat j []).map V.int)) := upd_same
  have z02 := z0.trans zc
  have nclt : cl ≠ tb := fun e => by rw [e, z0 _ _ e12] at ncl; cases ncl
  have nclH : H cl = none := Same.free z0 ncl
  generalize upd H0 cl (.lst ((rowC R zi.toNat j []).map V.int)) = H1 at *
  -- self.table.append(counted)
  refine ⟨_, rfl, p, C, dx, _, _, rfl, z02 _ _ e1, T.cl, T.nT, flC_table _ _ _ _, .inl ⟨rfl, _, .inl (.inl (z02 _ _ e12))⟩, _, rfl, tb, _, _, rfl, rfl, z02 _ _ e12, by rw [List.length_map, e13, sizeLine_eq]; omega, ?_⟩
  have g12 : upd H1 tb (.lst (ts.map V.ref ++ [V.ref cl])) tb = some (.lst ((ts ++ [cl]).map V.ref)) := by rw [upd_same, List.map_append]; rfl
  have gcl : upd H1 tb (.lst (ts.map V.ref ++ [V.ref cl])) cl = some (.lst ((rowC R zi.toNat j []).map V.int)) := by rw [upd_ne nclt]; exact ecl
  have sb : SB (At1 tb) H (upd H1 tb (.lst (ts.map V.ref ++ [V.ref cl]))) := (SB.of z02).trans (.selfW _)
  have nao : ao ≠ tb := e11
  refine ⟨_, rfl, p, C, dx, _, _, rfl, sb _ _ npt e1, T.cl, T.nO, flC_order _ _ _ _, ao, rfl, ⟨_, .of (sb _ _ nao e7)⟩, ?_⟩
  generalize upd H1 tb (.lst (ts.map V.ref ++ [V.ref cl])) = H2 at *
  have nb : ∀ {G : Hp}, SB (At1 cl) H2 G → ∀ b o, b ≠ tb → H b = some o → G b = some o := fun sG b o h1 hb => sG _ _ (fun e => by rw [show b = cl from e, nclH] at hb; cases hb) (sb _ _ h1 hb)
  refine for_list (K := K) (a := ao) (xs := ord.map nV) (fun i σ' G => SB (At1 cl) H2 G ∧ G cl = some (.lst ((rowC R zi.toNat j (ord.take i)).map V.int)) ∧ ∃ (y3 y4 y5 y6 y7 : Option V), σ' = [some (.ref p), some (.int (j : Nat)), some (.ref cl), y3, y4, y5, y6, y7])
    ⟨.rfl', gcl, none, none, none, none, none, rfl⟩ (fun i σ' G _ hh => .of (nb hh.1 _ _ nao e7)) (fun i x σ' G ex hh => ?_) (fun σ' G hh => ?_)
  · obtain ⟨sG, eG, y3, y4, y5, y6, y7, rfl⟩ := hh
    obtain ⟨s0, es, rfl⟩ := map_get ex
    have hs := e8.lt s0 (List.mem_of_getElem? es)
    have nG := nb sG
    have sHG : SB (At1 tb) H G := fun b o h1 hb => nG b o h1 hb
    have aR : AtAll (At1 tb) G R us := e3.sb sHG
    obtain ⟨pu, ve, ps, vs, e, ss, b1, b2, b3, b4, b5, b6, b7, b8, b9⟩ := row_at aR ok hs
    have eas : as[s0]? = some as[s0] := List.getElem?_eq_getElem (by rw [e5]; exact hs)
    generalize as[s0] = aw0 at eas
    obtain ⟨gs, ⟨bs, q1, q2, q3⟩, naw, lgs, bgs, sgs, mgs⟩ := e6 s0 aw0 _ eas b4
    -- number
    refine ⟨_, rfl, p, C, dx, _, _, rfl, nG _ _ npt e1, T.cl, T.nR, flC_rows _ _ _ _, _, rfl, pr, us, _, .ref pu, rfl, rfl, .of (nG _ _ nprt e2), atI_nat b1, pu, _, 0, ve, rfl, rfl, .of b2, rfl, _, rfl, ?_⟩
    have hsc := end_eq (j := j) ok b4 b6
    refine ⟨hsc.1, _, rfl, ?_⟩
    rw [hsc.2]
    refine tC_ite ?_
    rw [show (if decide (finN R s0 = some j) = true then V.int 1 else V.int 0) = nV ((if finN R s0 = some j then 1 else 0) + gSum (gs.take 0) fun m t => cst R zi.toNat j (some (m, t))) by
      rw [List.take_zero, show gSum [] (fun m t => cst R zi.toNat j (some (m, t))) = 0 from rfl]
      by_cases hq : finN R s0 = some j
      · rw [decide_eq_true hq, if_pos rfl, if_pos hq]; rfl
      · rw [decide_eq_false hq, if_neg (by decide), if_neg hq]; rfl]
    -- the steps, gathered
    have eaw := nG aw _ e10 e4
    refine ⟨_, rfl, p, C, dx, _, _, rfl, nG _ _ npt e1, T.cl, T.nW, flC_ways _ _ _ _, _, rfl, aw, _, _, .ref aw0, rfl, rfl, .of eaw, atI_nat (get_map eas), aw0, rfl, ⟨_, .of (nG _ _ naw q1)⟩, ?_⟩
    refine for_list (K := K) (a := aw0) (xs := bs.map V.ref) (fun i2 σ' G2 => G2 = G ∧ ∃ (y5 y6 y7 : Option V), σ' = [some (.ref p), some (.int (j : Nat)), some (.ref cl), some (nV s0), some (nV ((if finN R s0 = some j then 1 else 0) + gSum (gs.take i2) fun m t => cst R zi.toNat j (some (m, t)))), y5, y6, y7])
      ⟨rfl, _, _, _, rfl⟩ (fun i2 σ' G2 _ hh => by rw [hh.1]; exact .of (nG _ _ naw q1)) (fun i2 x σ' G2 ex hh => ?_) (fun σ' G2 hh => ?_)
    · obtain ⟨rfl, y5, y6, y7, rfl⟩ := hh
      obtain ⟨b, eb, rfl⟩ := map_get ex
      have li := (List.getElem?_eq_some_iff.mp eb).1
      have eg : gs[i2]? = some gs[i2] := List.getElem?_eq_getElem (by rw [← q2]; exact li)
      generalize gs[i2] = g at eg
      have mg := List.mem_of_getElem? eg
      obtain ⟨hg1, hg2, hg3⟩ := bgs g mg
      have eb3 := q3 i2 b g eb eg
      have nbt : b ≠ tb := ne_of eb3 e12 (by intro z; cases z)
      refine ⟨b, _, rfl, .of (nG _ _ nbt eb3), rfl, _, _, rfl, _, _, rfl, _, _, rfl, rfl, ?_⟩
      refine ⟨_, rfl, _, rfl, _, _, rfl, rfl, _, rfl, ?_⟩
      have tk : gSum (gs.take (i2 + 1)) (fun m t => cst R zi.toNat j (some (m, t))) = gSum (gs.take i2) (fun m t => cst R zi.toNat j (some (m, t))) + g.2.2 * cst R zi.toNat j (some (g.1, g.2.1)) := by
        unfold gSum
        rw [List.take_add_one, eg, List.map_append, List.sum_append]
        simp
      have fin : ∀ x : Int, x = ((((if finN R s0 = some j then 1 else 0) + gSum (gs.take (i2 + 1)) fun m t => cst R zi.toNat j (some (m, t)) : Nat)) : Int) → ∀ y5 y6 y7 : Option V, G2 = G2 ∧ ∃ (y5' y6' y7' : Option V), [some (.ref p), some (.int (j : Nat)), some (.ref cl), some (nV s0), some (V.int x), y5, y6, y7] = [some (.ref p), some (.int (j : Nat)), some (.ref cl), some (nV s0), some (nV ((if finN R s0 = some j then 1 else 0) + gSum (gs.take (i2 + 1)) fun m t => cst R zi.toNat j (some (m, t)))), y5', y6', y7'] := fun x hx y5 y6 y7 => ⟨rfl, y5, y6, y7, by rw [hx]⟩
      refine iteB (fun em => ?_) (fun em => ?_)
      · have hm : g.1 ≤ j := by have := of_decide_eq_true em; omega
        -- the row that is read
        have hrow : ∃ (ra : Addr) (rv : List V), (ts ++ [cl])[j - g.1]? = some ra ∧ G2 ra = some (.lst rv) ∧ rv[g.2.1]? = some (nV (ctN R zi.toNat (j - g.1) g.2.1)) := by
          by_cases h0 : g.1 = 0
          · refine ⟨cl, _, by rw [h0, Nat.sub_zero, ← e13, List.getElem?_append_right (Nat.le_refl _), Nat.sub_self]; rfl, eG, ?_⟩
            have hfr : g.2.1 ∈ ((fns R)[s0]?).getD [] := by
              rw [fns_get b4]
              exact List.mem_filterMap.mpr ⟨_, mgs g mg, by rw [h0]; show (if ((0 : Nat) : Int) = 0 then some ((g.2.1 : Nat) : Int).toNat else none) = _; simp⟩
            rw [List.getElem?_map, rowC_get (by omega), if_pos (e8.ah i s0 es _ hfr), h0, Nat.sub_zero]
            rfl
          · have hl : j - g.1 < ts.length := by omega
            have ea : ts[j - g.1]? = some ts[j - g.1] := List.getElem?_eq_getElem hl
            generalize ts[j - g.1] = ra at ea
            obtain ⟨na, era⟩ := e14 _ _ ea
            refine ⟨ra, _, by rw [List.getElem?_append_left hl]; exact ea, nG _ _ na era, ?_⟩
            rw [List.getElem?_map, List.getElem?_range (by omega)]
            rfl
        obtain ⟨ra, rv, er1, er2, er3⟩ := hrow
        have g12' : G2 tb = some (.lst ((ts ++ [cl]).map V.ref)) := sG _ _ (fun e => nclt (show tb = cl from e).symm) g12
        refine ⟨_, rfl, _, rfl, _, rfl, p, C, dx, _, _, rfl, nG _ _ npt e1, T.cl, T.nT, flC_table _ _ _ _, _, rfl, _, rfl, _, _, rfl, rfl, tb, _, _, .ref ra, rfl, rfl, .of g12', by rw [show ((j : Nat) : Int) - ((g.1 : Nat) : Int) = ((j - g.1 : Nat) : Int) by omega]; exact atI_nat (get_map er1), _, rfl, ra, rv, _, _, rfl, rfl, .of er2, atI_nat er3, _, _, rfl, rfl, .inl ⟨by omega, by omega⟩, _, _, rfl, rfl, ?_⟩
        refine fin _ ?_ _ _ _
        rw [tk, cstE, if_pos hm]
        push_cast
        omega
      · have hm : ¬ g.1 ≤ j := by have := of_decide_eq_false em; omega
        refine fin _ ?_ _ _ _
        rw [tk, cstE, if_neg hm, Nat.mul_zero, Nat.add_zero]
    · obtain ⟨rfl, y5, y6, y7, rfl⟩ := hh
      rw [List.length_map, q2, List.take_length, sgs, sSum_cst ok b4, ← ctN_rec ok nf]
      refine ⟨_, rfl, _, rfl, _, rfl, cl, _, _, s0, rfl, rfl, eG, ixT (by rw [List.length_map]; unfold rowC; simpa using hs), sG.trans (.selfW _), ?_, _, _, _, _, _, rfl⟩
      rw [upd_same, List.take_add_one, es, show (ord.take i ++ (some s0).toList) = ord.take i ++ [s0] from rfl, ← rowC_set hs, List.map_set]
  · obtain ⟨sG, eG, y3, y4, y5, y6, y7, rfl⟩ := hh
    have sHG : SB (At1 tb) H G := fun b o h1 hb => nb sG b o h1 hb
    rw [List.length_map, List.take_length, rowC_all (fun s hs => e8.all (by omega) hs)] at eG
    have g12' : G tb = some (.lst ((ts ++ [cl]).map V.ref)) := sG _ _ (fun e => nclt (show tb = cl from e).symm) g12
    refine (fun h1 => q G sHG h1 (CoZn.grown hzt hzn e1 e4 e12 (sHG _ _ npt e1) (sHG _ _ e10 e4) g12' nclH)) ⟨dx, pr, aw, ao, us, as, ord, ts ++ [cl], sHG _ _ npt e1, sHG _ _ nprt e2, e3.sb sHG, sHG _ _ e10 e4, e5, fun i a r ea er => ?_, sHG _ _ e11 e7, e8, e9, e10, e11, g12', by rw [List.length_append, e13]; rfl, fun b a ea => ?_⟩
    · obtain ⟨gs, ⟨bs, q1, q2, q3⟩, na, r⟩ := e6 i a r ea er
      exact ⟨gs, ⟨bs, sHG _ _ na q1, q2, fun i b g eb eg => by
        have e := q3 i b g eb eg
        exact sHG _ _ (ne_of e e12 (by intro z; cases z)) e⟩, na, r⟩
    · rcases get_snoc ea with h | ⟨rfl, rfl⟩
      · obtain ⟨n, e⟩ := e14 b a h
        exact ⟨n, sHG _ _ n e⟩
      · rw [e13]
        exact ⟨nclt, eG⟩
def spBehind (C : Addr) : Sp := fun vs H Q _ => ∃ (p tb : Addr) (zi : Int) (R : List Th) (j b : Nat) (v : V) (st : Option (Nat × Nat)) (Zn : Zone), vs = [.ref p, v, .int (b : Nat)] ∧ CoAt C zi R H p tb j ∧ MOk zi R ∧ NoR R ∧ j ≤ 90000 ∧ b ≤ 90000 ∧ (∀ a, Zn a → Trk H a) ∧ CoZn Zn C H p tb ∧
  ((st = none ∧ v = .non) ∨ ∃ m t a, st = some (m, t) ∧ v = .ref a ∧ H a = some (.tup [nV m, nV t]) ∧ t < R.length) ∧ ∀ j' H', SB (At1 tb) H H' → CoAt C zi R H' p tb j' → CoZn Zn C H' p tb → j ≤ j' → (j' ≤ j ∨ j' ≤ b + 1) → Q (nV (cst R zi.toNat b st)) H'
theorem ok_Counts_behind (Z : Zs mg) (T : CoC K C) (c_Counts_grow : MCal P w K mg base CX0 k C "grow" ["self"] (spGrow C)) (d : MDef K C "behind" "Counts.behind" s_Counts_behind ["self", "step", "bits"]) : MCal P w K mg base CX0 (k + 1) C "behind" ["self", "step", "bits"] (spBehind C) := by
  refine d.ok T.cl sc_Counts_behind (fun vs H Q E h => ?_) (fun f cdv A outer s H vs Q E hr h => ?_)
  · obtain ⟨_, _, _, _, _, _, _, _, _, rfl, _⟩ := h; rfl
  obtain ⟨p, tb, zi, R, j, b, v, st, Zn, rfl, co, ok, nf, hj, hb, hzt, hzn, hst, q⟩ := h
  refine ⟨_, (pss_cons (ps_if (PW.pt (pw_or (pt_cmpR op_isN (pv 1) pe_non (nomark _)) (pw_or1 (pt_cmpR op_gt (pe_ix ix_tup (pv 1) pe_int (fun _ _ => rfl)) (pv 2) (nomark _))))) (pss_one (ps_ret pe_int)) pss_nil)
      (pss_cons (ps_asg (pv 1) (pg_tup (by rfl) (pgs_cons (pg_name (i := 3) sc_Counts_behind.nd rfl (Or.inl rfl)) (pgs_cons (pg_name (i := 4) sc_Counts_behind.nd rfl (Or.inl rfl)) pgs_nil))))
      (pss_cons (ps_while PassesOwn.never (pt_cmpR op_le (pe_callB (id := "len") call_len_seq (by rfl) Z.len (by decide +kernel) (pa_cons (pe_fld (pv 0) rfl) pa_nil)) (pe_op op_sub (pv 2) (pv 3)) (nomark _)) (pss_one (ps_expr (pe_mcal0 c_Counts_grow hr (pv 0)))))
      (pss_one (ps_ret (pe_ix ix_list (pe_ix ix_list (pe_fld (pv 0) rfl) (pe_op op_sub (pv 2) (pv 3)) (fun _ _ => rfl)) (pv 4) (fun _ _ => rfl))))))), ?_⟩
  obtain ⟨dxf, prf, awf, aof, usf, asf, ordf, tsf, f1, f2, f3, f4, f5, f6, f7, f8, f9, f10, f11, f12, f13, f14⟩ := co.ob
  rcases hst with ⟨rfl, rfl⟩ | ⟨m, t, a, rfl, rfl, ea, ht⟩
  · exact ⟨_, rfl, rfl, _, rfl, iteT (iteT (q j H .rfl' co hzn (Nat.le_refl _) (.inl (Nat.le_refl _))))⟩
  refine ⟨_, rfl, rfl, _, rfl, iteF ?_⟩
  refine ⟨_, rfl, a, _, 0, nV m, rfl, rfl, .of ea, rfl, _, rfl, _, _, rfl, rfl, _, rfl, iteB (fun e1 => ?_) (fun e1 => ?_)⟩
  · have hm : ¬ m ≤ b := by have := of_decide_eq_true e1; omega
    have q' := q j H .rfl' co hzn (Nat.le_refl _) (.inl (Nat.le_refl _))
    rw [cstE, if_neg hm] at q'
    exact q'
  have hm : m ≤ b := by have := of_decide_eq_false e1; omega
  refine ⟨_, rfl, a, _, rfl, .of ea, rfl, _, _, rfl, _, _, rfl, rfl, ?_⟩
  have eb : ((b : Nat) : Int) - ((m : Nat) : Int) = ((b - m : Nat) : Int) := by omega
  refine ⟨fun n σ' H' => ∃ j', σ' = [some (.ref p), some (.ref a), some (.int (b : Nat)), some (nV m), some (nV t)] ∧ SB (At1 tb) H H' ∧ CoAt C zi R H' p tb j' ∧ CoZn Zn C H' p tb ∧ j ≤ j' ∧ (j' ≤ j ∨ j' ≤ b + 1) ∧ n = b + 1 - j', ⟨_, j, rfl, .rfl', co, hzn, Nat.le_refl _, .inl (Nat.le_refl _), rfl⟩, ?_⟩
  rintro n σ' H' ⟨j', rfl, sB, co', hz', hj1, hj2, rfl⟩
  obtain ⟨dx, pr, aw, ao, us, as, ord, ts, e1', e2, e3, e4, e5, e6, e7, e8, e9, e10, e11, e12, e13, e14⟩ := co'.ob
  refine ⟨_, rfl, p, C, dx, _, _, rfl, e1', T.cl, T.nT, flC_table _ _ _ _, tb, _, rfl, .inl (.of e12), _, rfl, _, rfl, _, _, rfl, rfl, _, _, rfl, rfl, _, rfl, iteB (fun e2' => ?_) (fun e2' => ?_)⟩
  · have hl : j' ≤ b - m := by
      have := of_decide_eq_true e2'
      rw [List.length_map, e13] at this
      omega
    refine ⟨fun σ' H' => ∃ n', n' < b + 1 - j' ∧ ∃ j', σ' = [some (.ref p), some (.ref a), some (.int (b : Nat)), some (nV m), some (nV t)] ∧ SB (At1 tb) H H' ∧ CoAt C zi R H' p tb j' ∧ CoZn Zn C H' p tb ∧ j ≤ j' ∧ (j' ≤ j ∨ j' ≤ b + 1) ∧ n' = b + 1 - j', fun σ' H' h => h, ?_⟩
    exact ⟨_, rfl, p, dx, _, rfl, e1', flC_no _ _ _ _ (by decide +kernel) (by decide +kernel) (by decide +kernel) (by decide +kernel), p, tb, zi, R, j', Zn, rfl, co', ok, nf, by omega, (fun a z => by obtain ⟨o, ho⟩ := Option.ne_none_iff_exists'.mp (hzt a z); exact .of (sB _ _ (fun e => (hzn.z _ _ _ _ _ _ f1 f4 f12).2.2.1 (by rw [← show a = tb from e]; exact z)) ho)), hz', fun H2 s2 co2 hz2 => ⟨_, by omega, j' + 1, rfl, sB.trans s2, co2, hz2, by omega, .inr (by omega), rfl⟩⟩
  · have hl : b - m < j' := by
      have := of_decide_eq_false e2'
      rw [List.length_map, e13] at this
      omega
    have et : ts[b - m]? = some ts[b - m] := List.getElem?_eq_getElem (by omega)
    generalize ts[b - m] = ra at et
    obtain ⟨_, era⟩ := e14 _ _ et
    refine ⟨_, rfl, p, C, dx, _, _, rfl, e1', T.cl, T.nT, flC_table _ _ _ _, _, rfl, _, rfl, _, _, rfl, rfl, tb, _, _, .ref ra, rfl, rfl, .of e12, by rw [eb]; exact atI_nat (get_map et), _, rfl, ra, _, _, nV (ctN R zi.toNat (b - m) t), rfl, rfl, .of era, atI_nat (by rw [List.getElem?_map, List.getElem?_range ht]; rfl), ?_⟩
    have q' := q j' H' sB co' hz' hj1 hj2
    rw [cstE, if_pos hm] at q'
    exact q'
def spOfLen (C : Addr) : Sp := fun vs H Q _ => ∃ (p tb : Addr) (zi : Int) (R : List Th) (j b : Nat) (Zn : Zone), vs = [.ref p, .int (b : Nat)] ∧ CoAt C zi R H p tb j ∧ MOk zi R ∧ NoR R ∧ j ≤ 90000 ∧ b ≤ 90000 ∧ (∀ a, Zn a → Trk H a) ∧ CoZn Zn C H p tb ∧
  ∀ j' H', SB (At1 tb) H H' → CoAt C zi R H' p tb j' → CoZn Zn C H' p tb → j ≤ j' → (j' ≤ j ∨ j' ≤ b + 1) → Q (nV (ctN R zi.toNat b 0)) H'
theorem ok_Counts_of_length (T : CoC K C) (c_Counts_behind : MCal P w K mg base CX0 k C "behind" ["self", "step", "bits"] (spBehind C)) (d : MDef K C "of_length" "Counts.of_length" s_Counts_of_length ["self", "bits"]) : MCal P w K mg base CX0 (k + 1) C "of_length" ["self", "bits"] (spOfLen C) := by
  refine d.ok T.cl sc_Counts_of_length (fun vs H Q E h => ?_) (fun f cdv A outer s H vs Q E hr h => ?_)
  · obtain ⟨_, _, _, _, _, _, _, rfl, _⟩ := h; rfl
  obtain ⟨p, tb, zi, R, j, b, Zn, rfl, co, ok, nf, hj, hb, hzt, hzn, q⟩ := h
  refine ⟨_, (pss_one (ps_ret (pe_mcal c_Counts_behind hr (pv 0) (pa_cons (pe_tup (pa_cons pe_int (pa_cons pe_int pa_nil))) (pa_cons (pv 1) pa_nil))))), ?_⟩
  obtain ⟨dx, pr, aw, ao, us, as, ord, ts, e1, e2, e3, e4, e5, e6, e7, e8, e9, e10, e11, e12, e13, e14⟩ := co.ob
  refine ⟨_, rfl, p, dx, _, rfl, e1, flC_no _ _ _ _ (by decide +kernel) (by decide +kernel) (by decide +kernel) (by decide +kernel), (by show 2 ≤ sizeLine; decide), fun T0 nT0 => ?_⟩
  have z0 := same_new nT0 (.tup [V.int 0, .int 0])
  refine ⟨_, rfl, p, tb, zi, R, j, b, _, some (0, 0), Zn, rfl, co.same z0, ok, nf, hj, hb, (fun a z => Trk.same z0 (hzt a z)), hzn.same co z0, .inr ⟨0, 0, T0, rfl, rfl, upd_same, ok.n1⟩, fun j' H' s1 co1 hz1 h1 h2 => ?_⟩
  have q' := q j' H' ((SB.of z0).trans s1) co1 hz1 h1 h2
  rw [← show cst R zi.toNat b (some (0, 0)) = ctN R zi.toNat b 0 by rw [cstE, if_pos (Nat.zero_le _), Nat.sub_zero]] at q'
  exact q'
end
end KL
end
section
set_option maxHeartbeats 1000000
namespace KL
open PySem PySem.Spec PyProof.Rows L2
abbrev sc_law_countedN : List Str := ["_law_small", "_law_most", "_law_size", "_law_rows", "_law_beside", "_law_order", "_law_turn", "_law_state", "_law_found", "_law_length", "_law_end", "_law_steps", "_law_added", "_law_step", "_law_there", "_law_here", "_law_other"]
abbrev s_law_counted : Stmt := topS 61
theorem sc_law_counted : FnScope ["_law_small", "_law_most", "_law_size", "_law_rows", "_law_beside", "_law_order", "_law_turn", "_law_state", "_law_found", "_law_length", "_law_end", "_law_steps", "_law_added", "_law_step", "_law_there", "_law_here", "_law_other"] ["_law_small", "_law_most"] (defScope s_law_counted) := ⟨rfl, rfl, rfl, by decide +kernel, rfl, by decide +kernel, by decide +kernel⟩
def cs_beside : Scope := match defBody s_law_counted with
  | _ :: .Assign _ (.ListComp _ _ sc _) _ :: _ => sc
  | _ => defScope s_law_counted
/-- a table of counts: row b of it holds the counts of the length b -/
structure CtAt (Z : Zone) (H : Hp) (R : List Th) (z : Nat) (D : Addr) (n : Nat) : Prop where
  ob : ¬ Z D ∧ ∃ cs : List Addr, H D = some (.lst (cs.map V.ref)) ∧ cs.length = n ∧ ∀ (b : Nat) (a : Addr), cs[b]? = some a → ¬ Z a ∧ H a = some (.lst ((List.range R.length).map fun s => nV (ctN R z b s)))
theorem CtAt.same {Z : Zone} {H H' : Hp} {R : List Th} {z n : Nat} {D : Addr} (h : CtAt Z H R z D n) (s : Same H H') : CtAt Z H' R z D n := by
  obtain ⟨nD, cs, e1, e2, e3⟩ := h.ob
  exact ⟨nD, cs, s _ _ e1, e2, fun b a e => ⟨(e3 b a e).1, s _ _ (e3 b a e).2⟩⟩
def spCountedL : Sp := fun vs H Q _ => ∃ (Z : Zone) (u : V) (z : Int) (R : List Th) (n : Nat), vs = [u, .int (n : Nat)] ∧ At Z H (.tup [.int z, .tup R]) u ∧ MOk z R ∧ NoR R ∧ n ≤ 4000 ∧ ∀ (D : Addr) H', Same H H' → CtAt (Trk H) H' R z.toNat D (n + 1) → Q (.ref D) H'
section
variable {P : Program} {w : World} {K : PySem.W.Frag} {mg : Str → Option Value} {base : Heap} {k : Nat}
theorem ok_law_counted (Z : Zs mg) (d : Def K mg "_law_counted" s_law_counted ["_law_small", "_law_most"]) : Cal P w K mg base CX0 (k + 1) "_law_counted" ["_law_small", "_law_most"] spCountedL := by
  refine d.ok sc_law_counted (fun vs H Q E h => ?_) (fun f cdv A outer s H vs Q E hr h => ?_)
  · obtain ⟨_, _, _, _, _, rfl, _⟩ := h; rfl
  obtain ⟨Zn, u, z, rows, n, rfl, hu, ok, nf, hn, q⟩ := h
  refine ⟨_, (pss_cons (ps_asg (pv 0) (pg_tup (by rfl) (pgs_cons (pg_name (i := 2) sc_law_counted.nd rfl (Or.inl rfl)) (pgs_cons (pg_name (i := 3) sc_law_counted.nd rfl (Or.inl rfl)) pgs_nil))))
      (pss_cons (ps_setLc (i := 4) (own := [("_law_end", 10), ("_law_steps", 11)]) (g := (gTup K 2 (gCons (gName 10) (gCons (gName 11) gNil)))) (tt := tYes) rfl sc_law_counted.nd rfl rfl (sw_true rfl rfl rfl (by decide +kernel)) (pi_tup (pv 3)) (blkOk_by (N := ["_law_small", "_law_most", "_law_size", "_law_rows", "_law_beside", "_law_order", "_law_turn", "_law_state", "_law_found", "_law_length", "_law_end", "_law_steps", "_law_added", "_law_step", "_law_there", "_law_here", "_law_other"]) (sc := defScope s_law_counted) (by decide +kernel)) (fun _ _ _ _ _ => (pg_tup (by rfl) (pgs_cons (pg_name (i := 10) sc_law_counted.nd rfl (Or.inl rfl)) (pgs_cons (pg_name (i := 11) sc_law_counted.nd rfl (Or.inl rfl)) pgs_nil)))) (fun _ _ _ _ _ => pts_nil) (fun _ _ _ _ _ => (pe_lc (wi := iTup K (tVar 11)) (tt := tAnd (tTest (tOp (fun x y H Q => y = .non ∧ Q (.bl (!decide (x = .non))) H) (tVar 13) (tC .non))) (tTest (tOp rEq (tOp (rIxT K) (tVar 13) (tC (.int 0))) (tC (.int 0))))) (own := [("_law_step", 13)]) (g := gName 13) rfl sc_law_counted.nd (pi_tup (pv 11)) (blkOk_by (N := ["_law_small", "_law_most", "_law_size", "_law_rows", "_law_beside", "_law_order", "_law_turn", "_law_state", "_law_found", "_law_length", "_law_end", "_law_steps", "_law_added", "_law_step", "_law_there", "_law_here", "_law_other"]) (sc := relS cs_beside (defScope s_law_counted)) (by decide +kernel)) (fun _ _ _ _ _ => (pg_name (i := 13) sc_law_counted.nd rfl (Or.inl rfl))) (fun _ _ _ _ _ => (pts_one (PW.pt (pw_and (pt_cmpR op_notN (pv 13) pe_non (nomark _)) (pw_and1 (pt_cmpR op_eq (pe_ix (r := rIxT K) ix_tup (pv 13) pe_int (fun _ _ => rfl)) pe_int (nomark _))))))) (fun _ _ _ _ _ => (pe_ix (r := rIxT K) ix_tup (pv 13) pe_int (fun _ _ => rfl))))))
      (pss_cons (ps_set (i := 5) sc_law_counted.nd rfl (Or.inr rfl) (pe_lst pa_nil))
      (pss_cons (ps_for PassesOwn.never rfl (pi_range1 (by rfl) Z.range (pa_cons (pe_callB (id := "len") call_len_seq (by rfl) Z.len (by decide +kernel) (pa_cons (pv 3) pa_nil)) pa_nil)) (pg_name (i := 6) sc_law_counted.nd rfl (Or.inl rfl)) (pss_one (ps_for PassesOwn.never rfl (pi_range1 (by rfl) Z.range (pa_cons (pe_callB (id := "len") call_len_seq (by rfl) Z.len (by decide +kernel) (pa_cons (pv 3) pa_nil)) pa_nil)) (pg_name (i := 7) sc_law_counted.nd rfl (Or.inl rfl)) (pss_one (ps_if (PW.pt (pw_and (pt_cmpR op_notIn_seq (pv 7) (pv 5) (by rfl)) (pw_and1 (pt_val (pe_callB (id := "all") (cr_all rfl) (by rfl) Z.all (by decide +kernel) (pa_cons (pe_lc (own := [("_law_other", 16)]) (g := gName 16) (tt := tYes) rfl sc_law_counted.nd (pi_list (pe_ix ix_list (pv 4) (pv 7) (fun _ _ => rfl))) (blkOk_by (N := ["_law_small", "_law_most", "_law_size", "_law_rows", "_law_beside", "_law_order", "_law_turn", "_law_state", "_law_found", "_law_length", "_law_end", "_law_steps", "_law_added", "_law_step", "_law_there", "_law_here", "_law_other"]) (sc := defScope s_law_counted) (by decide +kernel)) (fun _ _ _ _ _ => (pg_name (i := 16) sc_law_counted.nd rfl (Or.inl rfl))) (fun _ _ _ _ _ => pts_nil) (fun _ _ _ _ _ => (pe_cmpR (r := rIn K false) op_in_seq (pv 16) (pv 5) (by rfl)))) pa_nil)))))) (pss_one (ps_expr (pe_bm PySem.F.plainAttrs_list PySem.F.slot_list_append PySem.F.type_list_append mt_append (pv 5) (pa_cons (pv 7) pa_nil)))) pss_nil)))))
      (pss_cons (ps_set (i := 8) sc_law_counted.nd rfl (Or.inl rfl) (pe_lst pa_nil))
      (pss_cons (ps_for PassesOwn.never rfl (pi_range1 (by rfl) Z.range (pa_cons (pe_op op_add (pv 1) pe_int) pa_nil)) (pg_name (i := 9) sc_law_counted.nd rfl (Or.inl rfl)) (pss_cons (ps_expr (pe_bm PySem.F.plainAttrs_list PySem.F.slot_list_append PySem.F.type_list_append mt_append (pv 8) (pa_cons (pe_op op_rep (pe_lst (pa_cons pe_int pa_nil)) (pe_callB (id := "len") call_len_seq (by rfl) Z.len (by decide +kernel) (pa_cons (pv 3) pa_nil))) pa_nil)))
      (pss_one (ps_for PassesOwn.never rfl (pi_list (pv 5)) (pg_name (i := 7) sc_law_counted.nd rfl (Or.inl rfl)) (pss_cons (ps_asg (pe_ix ix_tup (pv 3) (pv 7) (fun _ _ => rfl)) (pg_tup (by rfl) (pgs_cons (pg_name (i := 10) sc_law_counted.nd rfl (Or.inl rfl)) (pgs_cons (pg_name (i := 11) sc_law_counted.nd rfl (Or.inl rfl)) pgs_nil))))
      (pss_cons (ps_set (i := 12) sc_law_counted.nd rfl (Or.inl rfl) (pe_callTy (T := "int") call_int1 (by rfl) Z.int (by decide +kernel) (pa_cons (pe_cmpR op_eq (pv 10) (pv 9) (nomark _)) pa_nil)))
      (pss_cons (ps_for PassesOwn.never rfl (pi_tup (pv 11)) (pg_name (i := 13) sc_law_counted.nd rfl (Or.inl rfl)) (pss_one (ps_if (PW.pt (pw_and (pt_cmpR op_notN (pv 13) pe_non (nomark _)) (pw_and1 (pt_cmpR op_le (pe_ix ix_tup (pv 13) pe_int (fun _ _ => rfl)) (pv 9) (nomark _))))) (pss_cons (ps_set (i := 14) sc_law_counted.nd rfl (Or.inl rfl) (pe_ix ix_list (pv 8) (pe_op op_sub (pv 9) (pe_ix ix_tup (pv 13) pe_int (fun _ _ => rfl))) (fun _ _ => rfl)))
      (pss_one (ps_set (i := 12) sc_law_counted.nd rfl (Or.inl rfl) (pe_op op_add (pv 12) (pe_ix ix_list (pv 14) (pe_ix ix_tup (pv 13) pe_int (fun _ _ => rfl)) (fun _ _ => rfl)))))) pss_nil)))
      (pss_cons (ps_set (i := 15) sc_law_counted.nd rfl (Or.inl rfl) (pe_ix ix_list (pv 8) (pv 9) (fun _ _ => rfl)))
      (pss_one (ps_asg (pv 12) (pg_sub (pv 15) (pv 7) set_list)))))))))))
      (pss_one (ps_ret (pv 8))))))))), ?_⟩
  have n30 := ok.n30
  have z8 := ok.z8
  obtain ⟨p, pr, us, rfl, ep, epr, ar, _⟩ := hu.mach
  have lu := ar.len
  refine ⟨_, rfl, p, _, rfl, .of ep, rfl, _, _, rfl, _, _, rfl, rfl, ?_⟩
  -- beside
  refine ⟨_, rfl, pr, rfl, ⟨_, .of epr⟩, fun D hD => lc_tup (xs := us) (fun j H' => Same H H' ∧ ∃ as : List Addr, H' D = some (.lst (as.map V.ref)) ∧ as.length = j ∧ ∀ (i : Nat) (a : Addr) (ws : List Nat), as[i]? = some a → (fns rows)[i]? = some ws → a ≠ D ∧ H a = none ∧ H' a = some (.lst (ws.map nV)))
    ⟨same_new hD _, [], upd_same, rfl, fun i a ws h => nomatch h⟩ (fun j H' _ p' => .of (p'.1 _ _ epr)) (fun j x H' ex p' => ?_) (fun H1 p1 => ?_)⟩
  · obtain ⟨s', as, eD, la, ha⟩ := p'
    have hj : j < rows.length := by rw [← lu]; exact (List.getElem?_eq_some_iff.mp ex).1
    obtain ⟨pu, ve, ps, vs, e, ss, b1, b2, b3, b4, b5, b6, b7, b8, b9⟩ := row_at (ar.same s') ok hj
    rw [b1] at ex; cases ex
    refine ⟨pu, _, rfl, .of b2, rfl, ve, _, rfl, _, _, rfl, rfl, rfl, iteT (B := False) ?_⟩
    refine ⟨_, rfl, ps, rfl, ⟨_, .of b3⟩, fun D2 hD2 => lc_tup (xs := vs) (fun j2 G => Same H' G ∧ G D2 = some (.lst (((ss.take j2).filterMap freeT).map nV))) ⟨same_new hD2 _, upd_same⟩ (fun j2 G _ p2 => .of (p2.1 _ _ b3)) (fun j2 x2 G ex2 p2 => ?_) (fun G p2 => ?_)⟩
    · obtain ⟨sG, eD2⟩ := p2
      have lj : j2 < ss.length := by rw [← b8.len]; exact (List.getElem?_eq_some_iff.mp ex2).1
      have lf : (((ss.take j2).filterMap freeT).map nV).length < sizeLine := by
        rw [List.length_map, sizeLine_eq]
        have := List.length_filterMap_le freeT (ss.take j2)
        rw [List.length_take] at this
        omega
      refine ⟨rfl, _, rfl, rfl, _, rfl, ?_⟩
      rcases st_get (b8.same sG) b9 ex2 with ⟨f1, rfl⟩ | ⟨q2, m, s2, f1, rfl, f2, _, m0, m1, s0, s1⟩
      · refine iteF (iteF ⟨sG, ?_⟩)
        rw [List.take_add_one, f1, List.filterMap_append]
        show G D2 = some (.lst (((List.take j2 ss).filterMap freeT ++ []).map nV))
        rw [List.append_nil]
        exact eD2
      · refine iteT ⟨_, rfl, q2, _, 0, .int m, rfl, rfl, .of f2, rfl, rfl, _, rfl, ?_⟩
        by_cases hm : m = 0
        · subst hm
          refine iteT ⟨_, rfl, q2, _, 1, .int s2, rfl, rfl, .of f2, rfl, _, eD2, lf, Same.upd_new sG hD2 _, ?_⟩
          rw [upd_same, List.take_add_one, f1, List.filterMap_append, List.map_append]
          show some (HO.lst (_ ++ [V.int s2])) = some (HO.lst (_ ++ [V.int ((s2.toNat : Nat) : Int)]))
          rw [show ((s2.toNat : Nat) : Int) = s2 by omega]
        · rw [show decide (V.int m = V.int 0) = false from decide_eq_false fun e => hm (by injection e)]
          refine iteF ⟨sG, ?_⟩
          rw [List.take_add_one, f1, List.filterMap_append]
          rw [show (some (Th.tup [.int m, .int s2])).toList.filterMap freeT = [] by show ([Th.tup [.int m, .int s2]].filterMap freeT) = []; rw [free_one rfl, if_neg hm], List.append_nil]
          exact eD2
    · obtain ⟨sG, eD2⟩ := p2
      rw [b8.len, List.take_length] at eD2
      refine ⟨as.map V.ref, sG _ _ eD, by rw [List.length_map, la, sizeLine_eq]; omega, Same.upd_new (s'.trans sG) hD _, as ++ [D2], by rw [upd_same, List.map_append]; rfl, by rw [List.length_append, la]; rfl, fun i a ws ei ew => ?_⟩
      have nD : D2 ≠ D := fun e => by rw [e, eD] at hD2; cases hD2
      rcases get_snoc ei with h | ⟨rfl, rfl⟩
      · obtain ⟨n, na, ea⟩ := ha i a ws h ew
        exact ⟨n, na, by rw [upd_ne n]; exact sG _ _ ea⟩
      · rw [la, fns_get b4] at ew
        cases ew
        exact ⟨nD, Same.free s' hD2, by rw [upd_ne nD]; exact eD2⟩
  obtain ⟨s1, as, eN, la, ha⟩ := p1
  have la' : as.length = rows.length := by rw [la, lu]
  have hw : ∀ x, x < rows.length → ∃ a ws, as[x]? = some a ∧ (fns rows)[x]? = some ws ∧ H1 a = some (.lst (ws.map nV)) := fun x hx => by
    have h1 : as[x]? = some (as[x]'(by omega)) := List.getElem?_eq_getElem _
    have h2 : (fns rows)[x]? = some ((fns rows)[x]'(by rw [fns_len]; exact hx)) := List.getElem?_eq_getElem _
    exact ⟨_, _, h1, h2, (ha x _ _ h1 h2).2.2⟩
  -- order
  refine ⟨(by show 0 ≤ sizeLine; decide), fun O nO => ?_⟩
  have zO := same_new nO (.lst [])
  have nOH : H O = none := Same.free s1 nO
  have eO0 : upd H1 O (.lst []) O = some (.lst []) := upd_same
  generalize upd H1 O (.lst []) = H2 at *
  have s2 := s1.trans zO
  have key : ∀ {G : Hp}, SB (At1 O) H2 G → ∀ b o, H1 b = some o → G b = some o := fun sB b o hb => sB _ _ (fun e => by rw [show b = O from e, nO] at hb; cases hb) (zO _ _ hb)
  refine ⟨_, rfl, pr, us, rfl, .inr (.of (s2 _ _ epr)), _, rfl, by omega, by omega, ?_⟩
  rw [lu, Int.toNat_natCast]
  refine for_range (lo := 0) (n := rows.length) (fun i σ' G => SB (At1 O) H2 G ∧ ∃ (ord : List Nat) (y6 y7 : Option V), σ' = [some (.ref p), some (.int (n : Nat)), some (.int z), some (.ref pr), some (.ref D), some (.ref O), y6, y7, none, none, none, none, none, none, none, none, none] ∧ G O = some (.lst (ord.map nV)) ∧ TurnOk rows ord ∧ (i ≤ ord.length))
    ⟨.rfl', [], none, none, rfl, eO0, TurnOk.nil rows, Nat.le_refl _⟩ (fun i σ' G hi hh => ?_) (fun σ' G hh => ?_)
  · obtain ⟨sB, ord, y6, y7, rfl, eO, tk, lo⟩ := hh
    refine ⟨_, rfl, pr, us, rfl, .inr (.of (key sB _ _ (s1 _ _ epr))), _, rfl, by omega, by omega, ?_⟩
    rw [lu, Int.toNat_natCast]
    refine for_range (lo := 0) (n := rows.length) (fun j σ' G => SB (At1 O) H2 G ∧ ∃ (o2 : List Nat) (y7 : Option V), σ' = [some (.ref p), some (.int (n : Nat)), some (.int z), some (.ref pr), some (.ref D), some (.ref O), some (.int (0 + (i : Nat))), y7, none, none, none, none, none, none, none, none, none] ∧ G O = some (.lst (o2.map nV)) ∧ TurnOk rows o2 ∧ (∃ more, o2 = ord ++ more) ∧ ∀ s', s' < j → (∀ t ∈ ((fns rows)[s']?).getD [], t ∈ ord) → s' ∈ o2)
      ⟨sB, ord, y7, rfl, eO, tk, ⟨[], (List.append_nil _).symm⟩, fun s' h => absurd h (Nat.not_lt_zero _)⟩ (fun j σ' G hj hh => ?_) (fun σ' G hh => ?_)
    · obtain ⟨sG, o2, y7, rfl, eO2, tk2, ⟨more, rfl⟩, hall⟩ := hh
      obtain ⟨a, ws, e1, ew, e3⟩ := hw j hj
      rw [show (0 : Int) + ((j : Nat) : Int) = ((j : Nat) : Int) from Int.zero_add _]
      have lws : ws.length ≤ 8 := by
        have := fns_8 ok j
        rw [ew] at this
        exact this
      have ecT := key sG _ _ e3
      have lo2 := tk2.len
      have skip : ∀ {G2 : Hp}, SB (At1 O) H2 G2 → G2 O = some (.lst ((ord ++ more).map nV)) → (j ∈ ord ++ more ∨ ∃ t ∈ ws, t ∉ ord ++ more) → SB (At1 O) H2 G2 ∧ ∃ (o2 : List Nat) (y7 : Option V), [some (.ref p), some (.int (n : Nat)), some (.int z), some (.ref pr), some (.ref D), some (.ref O), some (.int (0 + (i : Nat))), some (nV j), none, none, none, none, none, none, none, none, none] = [some (.ref p), some (.int (n : Nat)), some (.int z), some (.ref pr), some (.ref D), some (.ref O), some (.int (0 + (i : Nat))), y7, none, none, none, none, none, none, none, none, none] ∧ G2 O = some (.lst (o2.map nV)) ∧ TurnOk rows o2 ∧ (∃ more, o2 = ord ++ more) ∧ ∀ s', s' < j + 1 → (∀ t ∈ ((fns rows)[s']?).getD [], t ∈ ord) → s' ∈ o2 := by
        intro G2 s2 e2 hc
        refine ⟨s2, ord ++ more, _, rfl, e2, tk2, ⟨more, rfl⟩, fun s' hs' hf => ?_⟩
        by_cases e : s' = j
        · subst e
          rcases hc with h | ⟨t, mt, nt⟩
          · exact h
          · exact absurd (List.mem_append_left _ (hf t (by rw [ew]; exact mt))) nt
        · exact hall s' (by omega) hf
      refine ⟨_, rfl, _, rfl, O, _, rfl, .inl (.of eO2), rfl, flat_ns _, _, rfl, ?_⟩
      by_cases hin : j ∈ ord ++ more
      · rw [show (!inV (nV j) ((ord ++ more).map nV)) = false by rw [inV_ns, decide_eq_true hin]; rfl]
        exact iteF (iteF (skip sG eO2 (.inl hin)))
      rw [show (!inV (nV j) ((ord ++ more).map nV)) = true from (notin_ns j _).mpr hin]
      refine iteT ?_
      refine ⟨_, rfl, _, rfl, D, _, _, .ref a, rfl, rfl, .of (key sG _ _ eN), atI_nat (get_map e1), a, rfl, ⟨_, .of ecT⟩, fun D2 hD2 => lc_list (K := K) (a := a) (xs := ws.map nV) (fun j2 G2 => Same G G2 ∧ G2 D2 = some (.lst (((ws.take j2).map fun t => decide (t ∈ ord ++ more)).map V.bl))) ⟨same_new hD2 _, upd_same⟩ (fun j2 G2 _ p2 => .of (p2.1 _ _ ecT)) (fun j2 x G2 ex p2 => ?_) (fun G2 p2 => ?_)⟩
      · obtain ⟨sG2, eD2⟩ := p2
        obtain ⟨t, et, rfl⟩ := map_get ex
        have lj := (List.getElem?_eq_some_iff.mp et).1
        refine ⟨rfl, iteT (B := False) ⟨_, rfl, _, rfl, O, _, rfl, .inl (.of (sG2 _ _ eO2)), rfl, flat_ns _, _, eD2, by rw [List.length_map, List.length_map, List.length_take, sizeLine_eq]; omega, Same.upd_new sG2 hD2 _, ?_⟩⟩
        rw [upd_same, List.take_add_one, et, inV_ns, List.map_append, List.map_append]
        rfl
      · obtain ⟨sG2, eD2⟩ := p2
        rw [List.length_map, List.take_length] at eD2
        have eO3 := sG2 _ _ eO2
        have sG3 : SB (At1 O) H2 G2 := sG.trans (.of sG2)
        refine ⟨D2, _, rfl, .of eD2, _, rfl, ?_⟩
        by_cases hall2 : ∀ t ∈ ws, t ∈ ord ++ more
        · rw [show ((ws.map fun t => decide (t ∈ ord ++ more)).all id) = true by
            rw [List.all_map, List.all_eq_true]; exact fun t mt => decide_eq_true (hall2 t mt)]
          refine iteT ⟨_, rfl, .inl ⟨rfl, _, .inl (.inl eO3)⟩, _, rfl, O, _, nV j, rfl, rfl, eO3, by rw [List.length_map, sizeLine_eq]; omega, ?_⟩
          refine ⟨sG3.trans (.selfW _), ord ++ more ++ [j], _, rfl, by rw [upd_same, List.map_append (l₁ := ord ++ more)]; rfl, tk2.add hj hin (by rw [ew]; exact hall2), ⟨more ++ [j], List.append_assoc _ _ _⟩, fun s' hs' hf => ?_⟩
          by_cases e : s' = j
          · subst e; simp
          · exact List.mem_append_left _ (hall s' (by omega) hf)
        · have ⟨t, mt, nt⟩ : ∃ t, t ∈ ws ∧ t ∉ ord ++ more := by
            by_cases q : ∃ t, t ∈ ws ∧ t ∉ ord ++ more
            · exact q
            · refine absurd (fun t mt => ?_) hall2
              by_cases r : t ∈ ord ++ more
              · exact r
              · exact absurd ⟨t, mt, r⟩ q
          rw [show ((ws.map fun t => decide (t ∈ ord ++ more)).all id) = false by
            rw [List.all_map]
            exact List.all_eq_false.mpr ⟨t, mt, by simpa using nt⟩]
          exact iteF (skip sG3 eO3 (.inr ⟨t, mt, nt⟩))
    · obtain ⟨sG, o2, y7, rfl, eO2, tk2, ⟨more, rfl⟩, hall⟩ := hh
      refine ⟨sG, ord ++ more, _, _, rfl, eO2, tk2, ?_⟩
      by_cases hl : ord.length < rows.length
      · obtain ⟨s', hs', ns', hf⟩ := turn_next ok nf tk.nd tk.lt hl
        have ms := hall s' hs' hf
        have lm : 1 ≤ more.length := by
          cases more with
          | nil => rw [List.append_nil] at ms; exact absurd ms ns'
          | cons a r => simp
        rw [List.length_append]
        omega
      · rw [List.length_append]
        omega
  obtain ⟨sB, ord, y6, y7, rfl, eO, tk, lo⟩ := hh
  have k1 := key sB
  clear hw
  -- found
  refine ⟨(by show 0 ≤ sizeLine; decide), fun F nF => ?_⟩
  have zF := same_new nF (.lst [])
  have nFH1 : H1 F = none := by
    cases e : H1 F with
    | none => rfl
    | some o => rw [k1 _ _ e] at nF; cases nF
  have nFH : H F = none := Same.free s1 nFH1
  have eF0 : upd G F (.lst []) F = some (.lst []) := upd_same
  have nFO : O ≠ F := fun e => by rw [e, nF] at eO; cases eO
  have eO' := zF _ _ eO
  have k2 : ∀ b o, H b = some o → upd G F (.lst []) b = some o := fun b o hb => zF _ _ (k1 _ _ (s1 _ _ hb))
  generalize upd G F (.lst []) = G0 at *
  clear sB eO k1
  refine ⟨_, rfl, _, _, rfl, rfl, _, rfl, by omega, by omega, ?_⟩
  rw [show ((n : Nat) : Int) + 1 = ((n + 1 : Nat) : Int) by omega, Int.toNat_natCast]
  refine for_range (lo := 0) (n := n + 1) (fun i σ' G => SB (At1 F) G0 G ∧ ∃ (cs : List Addr) (y7 y9 y10 y11 y12 y13 y14 y15 : Option V), σ' = [some (.ref p), some (.int (n : Nat)), some (.int z), some (.ref pr), some (.ref D), some (.ref O), y6, y7, some (.ref F), y9, y10, y11, y12, y13, y14, y15, none] ∧ G F = some (.lst (cs.map V.ref)) ∧ cs.length = i ∧ ∀ (b : Nat) (a : Addr), cs[b]? = some a → a ≠ F ∧ H a = none ∧ G a = some (.lst ((List.range rows.length).map fun s => nV (ctN rows z.toNat b s))))
    ⟨.rfl', [], _, none, none, none, none, none, none, none, rfl, eF0, rfl, fun b a h => nomatch h⟩ (fun j σ' G hj hh => ?_) (fun σ' G hh => ?_)
  · obtain ⟨sG, cs, y7, y9, y10, y11, y12, y13, y14, y15, rfl, eF, lc, hc⟩ := hh
    rw [show (0 : Int) + ((j : Nat) : Int) = ((j : Nat) : Int) from Int.zero_add _]
    have kG : ∀ b o, H b = some o → G b = some o := fun b o hb => sG _ _ (fun e => by rw [show b = F from e, nFH] at hb; cases hb) (k2 _ _ hb)
    have eOG := sG _ _ nFO eO'
    -- found.append([0] * len(rows))
    refine ⟨_, rfl, .inl ⟨rfl, _, .inl (.inl eF)⟩, (by show 1 ≤ sizeLine; decide), fun L0 nL0 => ?_⟩
    have z0 := same_new nL0 (.lst [V.int 0])
    have eL0 : upd G L0 (.lst [V.int 0]) L0 = some (.lst [V.int 0]) := upd_same
    generalize upd G L0 (.lst [V.int 0]) = H3 at *
    refine ⟨_, rfl, pr, us, rfl, .inr (.of (z0 _ _ (kG _ _ epr))), L0, _, _, rfl, rfl, eL0, by omega, by omega, (by show 1 * ((us.length : Nat) : Int).toNat ≤ sizeLine; rw [sizeLine_eq]; omega), fun cl ncl => ?_⟩
    have zc := same_new ncl (.lst ((rowC rows z.toNat j []).map V.int))
    have erep : (List.replicate ((us.length : Nat) : Int).toNat [V.int 0]).flatten = (rowC rows z.toNat j []).map V.int := by
      rw [rowC_nil, lu, Int.toNat_natCast, List.map_replicate]
      generalize rows.length = n
      induction n with
      | zero => rfl
      | succ n ih => rw [List.replicate_succ, List.replicate_succ, List.flatten_cons, ih]; rfl
    rw [erep]
    have ecl : upd H3 cl (.lst ((rowC rows z.toNat j []).map V.int)) cl = some (.lst ((rowC rows z.toNat j []).map V.int)) := upd_same
    have z02 := z0.trans zc
    have nclF : cl ≠ F := fun e => by rw [e, z0 _ _ eF] at ncl; cases ncl
    have nclG : G cl = none := Same.free z0 ncl
    have nclH : H cl = none := by
      cases e : H cl with
      | none => rfl
      | some o => rw [kG _ _ e] at nclG; cases nclG
    have nclO : O ≠ cl := fun e => by rw [← e, eOG] at nclG; cases nclG
    generalize upd H3 cl (.lst ((rowC rows z.toNat j []).map V.int)) = H4 at *
    refine ⟨F, _, _, rfl, rfl, z02 _ _ eF, by rw [List.length_map, lc, sizeLine_eq]; omega, ?_⟩
    have eF5 : upd H4 F (.lst (cs.map V.ref ++ [V.ref cl])) F = some (.lst ((cs ++ [cl]).map V.ref)) := by rw [upd_same, List.map_append]; rfl
    have ecl5 : upd H4 F (.lst (cs.map V.ref ++ [V.ref cl])) cl = some (.lst ((rowC rows z.toNat j []).map V.int)) := by rw [upd_ne nclF]; exact ecl
    have sb5 : SB (At1 F) G (upd H4 F (.lst (cs.map V.ref ++ [V.ref cl]))) := (SB.of z02).trans (.selfW _)
    generalize upd H4 F (.lst (cs.map V.ref ++ [V.ref cl])) = H5 at *
    have nb : ∀ {G2 : Hp}, SB (At1 cl) H5 G2 → ∀ b o, b ≠ F → G b = some o → G2 b = some o := fun sG2 b o h1 hb => sG2 _ _ (fun e => by rw [show b = cl from e, nclG] at hb; cases hb) (sb5 _ _ h1 hb)
    refine ⟨_, rfl, O, rfl, ⟨_, .of (sb5 _ _ nFO eOG)⟩, ?_⟩
    refine for_list (K := K) (a := O) (xs := ord.map nV) (fun i σ' G2 => SB (At1 cl) H5 G2 ∧ G2 cl = some (.lst ((rowC rows z.toNat j (ord.take i)).map V.int)) ∧ ∃ (y7 y10 y11 y12 y13 y14 y15 : Option V), σ' = [some (.ref p), some (.int (n : Nat)), some (.int z), some (.ref pr), some (.ref D), some (.ref O), y6, y7, some (.ref F), some (.int (j : Nat)), y10, y11, y12, y13, y14, y15, none])
      ⟨.rfl', ecl5, _, _, _, _, _, _, _, rfl⟩ (fun i σ' G2 _ hh => .of (nb hh.1 _ _ nFO eOG)) (fun i x σ' G2 ex hh => ?_) (fun σ' G2 hh => ?_)
    · obtain ⟨sG2, eG, y7, y10, y11, y12, y13, y14, y15, rfl⟩ := hh
      obtain ⟨s0, es, rfl⟩ := map_get ex
      have hs := tk.lt s0 (List.mem_of_getElem? es)
      have nG := nb sG2
      have kG2 : Same H G2 := fun b o hb => nG b o (fun e => by rw [e, nFH] at hb; cases hb) (kG _ _ hb)
      have aR := ar.same kG2
      obtain ⟨pu, ve, ps, vs, e, ss, b1, b2, b3, b4, b5, b6, b7, b8, b9⟩ := row_at aR ok hs
      refine ⟨_, rfl, _, rfl, pr, us, _, .ref pu, rfl, rfl, .of (kG2 _ _ epr), atI_nat b1, pu, _, rfl, .of b2, rfl, ve, _, rfl, _, _, rfl, rfl, ?_⟩
      have hsc := end_eq (j := j) ok b4 b6
      refine ⟨_, rfl, _, rfl, hsc.1, .inr ⟨_, rfl, ?_⟩⟩
      rw [hsc.2]
      have eF6 : G2 F = some (.lst ((cs ++ [cl]).map V.ref)) := sG2 _ _ (fun e => nclF (show F = cl from e).symm) eF5
      refine ⟨_, rfl, ps, rfl, ⟨_, .of b3⟩, ?_⟩
      refine for_tup (xs := vs) (fun i2 σ' G3 => G3 = G2 ∧ ∃ (y13 y14 : Option V), σ' = [some (.ref p), some (.int (n : Nat)), some (.int z), some (.ref pr), some (.ref D), some (.ref O), y6, some (nV s0), some (.ref F), some (.int (j : Nat)), some ve, some (.ref ps), some (nV ((if finN rows s0 = some j then 1 else 0) + sSum (ss.take i2) fun m t => cst rows z.toNat j (some (m, t)))), y13, y14, y15, none])
        ⟨rfl, y13, y14, ?_⟩ (fun i2 σ' G3 _ hh => by rw [hh.1]; exact .of b3) (fun i2 x2 σ' G3 ex2 hh => ?_) (fun σ' G3 hh => ?_)
      · rw [List.take_zero, show sSum [] (fun m t => cst rows z.toNat j (some (m, t))) = 0 from rfl]
        by_cases hq : finN rows s0 = some j
        · rw [decide_eq_true hq, if_pos rfl, if_pos hq]; rfl
        · rw [decide_eq_false hq, if_neg (by decide), if_neg hq]; rfl
      · obtain ⟨rfl, y13, y14, rfl⟩ := hh
        have eg : ∀ st, ss[i2]? = some st → sSum (ss.take (i2 + 1)) (fun m t => cst rows z.toNat j (some (m, t))) = sSum (ss.take i2) (fun m t => cst rows z.toNat j (some (m, t))) + stV (fun m t => cst rows z.toNat j (some (m, t))) st := fun st e => by
          rw [List.take_add_one, e]
          exact sSum_snoc _ _ _
        rcases st_get b8 b9 ex2 with ⟨f1, rfl⟩ | ⟨q2, m, s2, f1, rfl, f2, _, m0, m1, t0, t1⟩
        · refine ⟨_, rfl, rfl, _, rfl, iteF (iteF ⟨rfl, some V.non, y14, ?_⟩)⟩
          rw [eg _ f1]
          rfl
        obtain ⟨m, rfl⟩ : ∃ m' : Nat, m = m' := ⟨m.toNat, by omega⟩
        obtain ⟨s2, rfl⟩ : ∃ m' : Nat, s2 = m' := ⟨s2.toNat, by omega⟩
        have tkS := eg _ f1
        rw [show stV (fun m t => cst rows z.toNat j (some (m, t))) (.tup [.int (m : Nat), .int (s2 : Nat)]) = cst rows z.toNat j (some (m, s2)) from rfl, cstE] at tkS
        refine ⟨_, rfl, rfl, _, rfl, iteT ?_⟩
        refine ⟨_, rfl, q2, _, 0, nV m, rfl, rfl, .of f2, rfl, _, rfl, _, _, rfl, rfl, _, rfl, iteB (fun em => ?_) (fun em => ?_)⟩
        · have hm : m ≤ j := by have := of_decide_eq_true em; omega
          have hrow : ∃ (ra : Addr) (rv : List V), (cs ++ [cl])[j - m]? = some ra ∧ G3 ra = some (.lst rv) ∧ rv[s2]? = some (nV (ctN rows z.toNat (j - m) s2)) := by
            by_cases h0 : m = 0
            · refine ⟨cl, _, by rw [h0, Nat.sub_zero, ← lc, List.getElem?_append_right (Nat.le_refl _), Nat.sub_self]; rfl, eG, ?_⟩
              have hfr : s2 ∈ ((fns rows)[s0]?).getD [] := by
                rw [fns_get b4]
                exact List.mem_filterMap.mpr ⟨_, List.mem_of_getElem? f1, by rw [h0]; show (if ((0 : Nat) : Int) = 0 then some ((s2 : Nat) : Int).toNat else none) = _; simp⟩
              rw [List.getElem?_map, rowC_get (by omega), if_pos (tk.ah i s0 es _ hfr), h0, Nat.sub_zero]
              rfl
            · have hl : j - m < cs.length := by omega
              have ea : cs[j - m]? = some cs[j - m] := List.getElem?_eq_getElem hl
              generalize cs[j - m] = ra at ea
              obtain ⟨na, _, era⟩ := hc _ _ ea
              refine ⟨ra, _, by rw [List.getElem?_append_left hl]; exact ea, nG _ _ na era, ?_⟩
              rw [List.getElem?_map, List.getElem?_range (by omega)]
              rfl
          obtain ⟨ra, rv, er1, er2, er3⟩ := hrow
          refine ⟨_, rfl, _, rfl, _, rfl, q2, _, 0, nV m, rfl, rfl, .of f2, rfl, _, _, rfl, rfl, F, _, _, .ref ra, rfl, rfl, .of eF6, by rw [show ((j : Nat) : Int) - ((m : Nat) : Int) = ((j - m : Nat) : Int) by omega]; exact atI_nat (get_map er1), ?_⟩
          refine ⟨_, rfl, _, rfl, _, rfl, q2, _, 1, nV s2, rfl, rfl, .of f2, rfl, ra, rv, _, _, rfl, rfl, .of er2, atI_nat er3, _, _, rfl, rfl, rfl, some (.ref q2), some (.ref ra), ?_⟩
          rw [tkS, if_pos hm, ← Nat.add_assoc, Int.natCast_add]
          rfl
        · have hm : ¬ m ≤ j := by have := of_decide_eq_false em; omega
          refine ⟨rfl, some (.ref q2), y14, ?_⟩
          rw [tkS, if_neg hm, Nat.add_zero]
          rfl
      · obtain ⟨rfl, y13, y14, rfl⟩ := hh
        rw [b8.len, List.take_length, show sSum ss (fun m t => cst rows z.toNat j (some (m, t))) = _ from sSum_cst ok b4, ← ctN_rec ok nf]
        refine ⟨_, rfl, _, rfl, F, _, _, .ref cl, rfl, rfl, .of eF6, atI_nat (get_map (by rw [← lc, List.getElem?_append_right (Nat.le_refl _), Nat.sub_self]; rfl)), ?_⟩
        refine ⟨_, rfl, _, rfl, _, rfl, cl, _, _, s0, rfl, rfl, eG, ixT (by rw [List.length_map]; unfold rowC; simpa using hs), sG2.trans (.selfW _), ?_, _, _, _, _, _, _, _, rfl⟩
        rw [upd_same, List.take_add_one, es, show (ord.take i ++ (some s0).toList) = ord.take i ++ [s0] from rfl, ← rowC_set hs, List.map_set]
    · obtain ⟨sG2, eG, y7, y10, y11, y12, y13, y14, y15, rfl⟩ := hh
      have nG := nb sG2
      rw [List.length_map, List.take_length, rowC_all (fun s hs => tk.all lo hs)] at eG
      have eF6 : G2 F = some (.lst ((cs ++ [cl]).map V.ref)) := sG2 _ _ (fun e => nclF (show F = cl from e).symm) eF5
      refine ⟨fun b o h1 hb => nG b o h1 (sG _ _ h1 hb), cs ++ [cl], _, _, _, _, _, _, _, _, rfl, eF6, by rw [List.length_append, lc]; rfl, fun b a ea => ?_⟩
      rcases get_snoc ea with h | ⟨rfl, rfl⟩
      · obtain ⟨n1, n2, e⟩ := hc b a h
        exact ⟨n1, n2, nG _ _ n1 e⟩
      · rw [lc]
        exact ⟨nclF, nclH, eG⟩
  · obtain ⟨sG, cs, y7, y9, y10, y11, y12, y13, y14, y15, rfl, eF, lc, hc⟩ := hh
    exact ⟨_, rfl, q F _ (fun b o hb => sG _ _ (fun e => by rw [show b = F from e, nFH] at hb; cases hb) (k2 _ _ hb)) ⟨fun z => z nFH, cs, eF, lc, fun b a ea => ⟨fun z => z (hc b a ea).2.1, (hc b a ea).2.2⟩⟩⟩
end
end KL
end
section
set_option maxHeartbeats 1000000
namespace KL
open PySem PySem.Spec PyProof.Rows L2
/-- numbers that solve the rows -/
structure SolT (rows : List Th) (X : Nat → Int) (D : Int) : Prop where
  D0 : 0 < D
  nn : ∀ s, s < rows.length → 0 ≤ X s
  eq : ∀ s, s < rows.length → vS X (stS rows s) + D * shE (enS rows s) = 2 ^ 60 * X s
theorem SolT.of {z : Int} {rows : List Th} (ok : MOk z rows) (hp : PosR rows) : SolT rows (fun q => Yk (eqr rows) rows.length q rows.length) (dk (eqr rows) rows.length) where
  D0 := hp _ (Nat.le_refl _)
  nn := fun s hs => wos_nn hp hs
  eq := fun s hs => by
    have h := the_sol (r := eqr rows) (n := rows.length) (fun m hm => by have := hp m hm; omega) hs
    unfold Lf at h
    rw [eq_split hs, vS_sum _ (fun st m => st_is ok st m), end_col] at h
    show vS _ (stS rows s) + _ * shE (endOf ((rows[s]?).getD .non)) = _
    have e : vS (fun q => Yk (eqr rows) rows.length q rows.length) (stS rows s) = vS (fun q => Yk (eqr rows) rows.length q rows.length) (stepsOf ((rows[s]?).getD .non)) := rfl
    rw [e]
    omega
theorem vS_add (X Y : Nat → Int) : ∀ ss : List Th, vS (fun s => X s + Y s) ss = vS X ss + vS Y ss
  | [] => rfl
  | st :: ss => by
    rw [vS_cons, vS_cons, vS_cons, vS_add X Y ss]
    have : vT (fun s => X s + Y s) st = vT X st + vT Y st := by
      unfold vT
      split
      · rw [Int.mul_add]
      · rfl
    omega
theorem step_lt {z : Int} {rows : List Th} (ok : MOk z rows) {s : Nat} {m t : Int} (h : Th.tup [.int m, .int t] ∈ stS rows s) : t.toNat < rows.length ∧ 0 ≤ m ∧ m ≤ 60 := by
  rcases st_is ok _ h with e | ⟨m', t', e, m0, m1, t0, t1⟩
  · cases e
  · injection e with e
    injection e with e1 e2
    injection e1 with e1
    injection e2 with e2 _
    injection e2 with e2
    subst e1 e2
    exact ⟨by omega, m0, m1⟩
/-- one step behind another -/
def itV (rows : List Th) (X : Nat → Int) : Nat → Nat → Int
  | 0 => X
  | i + 1 => fun s => vS (itV rows X i) (stS rows s)
abbrev enV (rows : List Th) : Nat → Int := fun s => shE (enS rows s)
/-- the texts of at most i letters, put together -/
def prV (rows : List Th) : Nat → Nat → Int
  | 0 => enV rows
  | i + 1 => fun s => 2 ^ 60 * prV rows i s + itV rows (enV rows) (i + 1) s
section
variable {z : Int} {rows : List Th} {X : Nat → Int} {D : Int}
theorem SolT.it (h : SolT rows X D) (ok : MOk z rows) : ∀ i s, s < rows.length → D * itV rows (enV rows) i s + itV rows X (i + 1) s = 2 ^ 60 * itV rows X i s
  | 0, s, hs => by
    have := h.eq s hs
    show D * shE (enS rows s) + vS X (stS rows s) = 2 ^ 60 * X s
    omega
  | i + 1, s, hs => by
    show D * vS (itV rows (enV rows) i) (stS rows s) + vS (itV rows X (i + 1)) (stS rows s) = 2 ^ 60 * vS (itV rows X i) (stS rows s)
    rw [← vS_mul, ← vS_add, ← vS_mul]
    exact vS_congr fun m t k => SolT.it h ok i t.toNat (step_lt ok k).1
theorem SolT.part (h : SolT rows X D) (ok : MOk z rows) : ∀ i s, s < rows.length → D * prV rows i s + itV rows X (i + 1) s = 2 ^ (60 * (i + 1)) * X s
  | 0, s, hs => h.it ok 0 s hs
  | i + 1, s, hs => by
    have h1 := SolT.part h ok i s hs
    have h2 := h.it ok (i + 1) s hs
    show D * (2 ^ 60 * prV rows i s + itV rows (enV rows) (i + 1) s) + itV rows X (i + 1 + 1) s = _
    rw [show (60 * (i + 1 + 1)) = 60 * (i + 1) + 60 by omega, Int.pow_add, Int.mul_add, Int.add_assoc, h2]
    have e1 : D * (2 ^ 60 * prV rows i s) = 2 ^ 60 * (D * prV rows i s) := by rw [← Int.mul_assoc, ← Int.mul_assoc, Int.mul_comm D]
    have e2 : (2 : Int) ^ (60 * (i + 1)) * 2 ^ 60 * X s = 2 ^ 60 * (2 ^ (60 * (i + 1)) * X s) := by rw [Int.mul_comm (2 ^ (60 * (i + 1)) : Int), Int.mul_assoc]
    rw [e1, e2, ← h1, Int.mul_add]
theorem itV_nn (ok : MOk z rows) (hX : ∀ s, s < rows.length → 0 ≤ X s) : ∀ i s, s < rows.length → 0 ≤ itV rows X i s
  | 0, s, hs => hX s hs
  | i + 1, s, hs => (vS_ge fun m t k => itV_nn ok hX i t.toNat (step_lt ok k).1).1
theorem enV_nn (rows : List Th) (s : Nat) : 0 ≤ enV rows s := by
  unfold enV shE
  split
  · exact Int.pow_nonneg (by decide)
  · exact Int.le_refl _
theorem prV_nn (ok : MOk z rows) : ∀ i s, s < rows.length → 0 ≤ prV rows i s
  | 0, s, _ => enV_nn rows s
  | i + 1, s, hs => by
    have h1 := prV_nn ok i s hs
    have h2 := itV_nn ok (fun s _ => enV_nn rows s) (i + 1) s hs
    show 0 ≤ 2 ^ 60 * prV rows i s + itV rows (enV rows) (i + 1) s
    have : (0 : Int) ≤ 2 ^ 60 * prV rows i s := Int.mul_nonneg (by decide) h1
    omega
theorem SolT.it_le (h : SolT rows X D) (ok : MOk z rows) : ∀ i s, s < rows.length → itV rows X i s ≤ 2 ^ (60 * i) * X s
  | 0, s, hs => by
    show X s ≤ 2 ^ (60 * 0) * X s
    rw [Nat.mul_zero, Int.pow_zero, Int.one_mul]
    exact Int.le_refl _
  | i + 1, s, hs => by
    have h1 := h.part ok i s hs
    have h2 : 0 ≤ D * prV rows i s := Int.mul_nonneg (by have := h.D0; omega) (prV_nn ok i s hs)
    omega
theorem SolT.pr_le (h : SolT rows X D) (ok : MOk z rows) (i s : Nat) (hs : s < rows.length) : D * prV rows i s ≤ 2 ^ (60 * (i + 1)) * X s := by
  have h1 := h.part ok i s hs
  have h2 := itV_nn ok h.nn (i + 1) s hs
  omega
/-! without a ring -/
theorem SolT.pos (h : SolT rows X D) (ok : MOk z rows) {s : Nat} (hs : s < rows.length) (l : lvE rows s) : 0 < X s := by
  obtain ⟨e, re, he⟩ := l
  have nnS : ∀ s, s < rows.length → ∀ m t, Th.tup [.int m, .int t] ∈ stS rows s → 0 ≤ X t.toNat := fun s _ m t k => h.nn _ (step_lt ok k).1
  have key : ∀ b, Rc rows s b → 0 < X b → 0 < X s := fun b r2 => by
    induction r2 with
    | base m => rw [List.mem_singleton.mp m]; exact fun h => h
    | step r0 m ih =>
      rename_i i t
      intro h2
      have hi : i < rows.length := ok.rc_lt hs r0
      obtain ⟨mo, hm⟩ := nx_st ok m
      have g := (vS_ge (nnS i hi)).2 _ _ hm
      rw [Int.toNat_natCast] at g
      have := Int.mul_pos (pow_pos60 mo) h2
      have eq := h.eq i hi
      have := Int.mul_nonneg (Int.le_of_lt h.D0) (shE_nn (enS rows i))
      exact ih (by omega)
  refine key e re ?_
  have rE : e < rows.length := ok.rc_lt hs re
  have eq := h.eq e rE
  have g := (vS_ge (nnS e rE)).1
  have hE : 0 < shE (enS rows e) := by
    obtain ⟨x, ss, er, c1, _⟩ := ok.row rE
    unfold isEnd at he
    rw [er] at he
    show 0 < shE (endOf ((rows[e]?).getD .non))
    rw [er]
    rcases c1 with rfl | ⟨i, rfl, _⟩
    · exact absurd rfl he
    · exact Int.pow_pos (by decide)
  have := Int.mul_pos h.D0 hE
  omega
theorem vS_two {X : Nat → Int} {a b : Th} : ∀ {ss : List Th}, (∀ st ∈ ss, 0 ≤ vT X st) → a ∈ ss → b ∈ ss → a ≠ b → vT X a + vT X b ≤ vS X ss
  | [], _, h, _, _ => nomatch h
  | x :: ss, nn, ha, hb, ne => by
    rw [vS_cons]
    have one : ∀ {c : Th} {ss : List Th}, (∀ st ∈ ss, 0 ≤ vT X st) → c ∈ ss → vT X c ≤ vS X ss ∧ 0 ≤ vS X ss := by
      intro c ss
      induction ss with
      | nil => intro _ h; cases h
      | cons y r ih =>
        intro nn h
        rw [vS_cons]
        have h0 : 0 ≤ vS X r := by
          have : ∀ r : List Th, (∀ st ∈ r, 0 ≤ vT X st) → 0 ≤ vS X r := fun r => by
            induction r with
            | nil => intro _; exact Int.le_refl _
            | cons w r ih => intro h; rw [vS_cons]; have := h w List.mem_cons_self; have := ih fun st m => h st (List.mem_cons_of_mem _ m); omega
          exact this r fun st m => nn st (List.mem_cons_of_mem _ m)
        have hy := nn y List.mem_cons_self
        rcases List.mem_cons.mp h with rfl | h
        · omega
        · have := ih (fun st m => nn st (List.mem_cons_of_mem _ m)) h
          omega
    have nn' : ∀ st ∈ ss, 0 ≤ vT X st := fun st m => nn st (List.mem_cons_of_mem _ m)
    have hx := nn x List.mem_cons_self
    rcases List.mem_cons.mp ha with e1 | ha' <;> rcases List.mem_cons.mp hb with e2 | hb'
    · exact absurd (e1.trans e2.symm) ne
    · rw [e1]; have := (one nn' hb').1; omega
    · rw [e2]; have := (one nn' ha').1; omega
    · have := vS_two nn' ha' hb' ne; omega
theorem fr_trans {rows : List Th} {a b c : Nat} (h : FR rows a b) (k : FR rows b c) : FR rows a c := by
  induction k with
  | base m => exact .step h m
  | step _ m ih => exact .step ih m
theorem fr_first {rows : List Th} {a c : Nat} (k : FR rows a c) : ∃ y, y ∈ ((fns rows)[a]?).getD [] ∧ (y = c ∨ FR rows y c) := by
  induction k with
  | base m => exact ⟨_, m, .inl rfl⟩
  | step r m ih =>
    obtain ⟨y, h1, h2⟩ := ih
    refine ⟨y, h1, .inr ?_⟩
    rcases h2 with rfl | h2
    · exact .base m
    · exact .step h2 m
theorem fr_st (ok : MOk z rows) {s t : Nat} (h : t ∈ ((fns rows)[s]?).getD []) : Th.tup [.int 0, .int (t : Int)] ∈ stS rows s := by
  obtain ⟨l, _, e⟩ := nx_free ok h
  unfold stepAt at e
  cases e2 : (stepsOf ((rows[s]?).getD .non))[l]? with
  | none => rw [e2] at e; cases e
  | some x =>
    rw [e2] at e
    have e : x = _ := e
    rw [← e]
    exact List.mem_of_getElem? e2
theorem SolT.fr (h : SolT rows X D) (ok : MOk z rows) {a b : Nat} (ha : a < rows.length) (k : FR rows a b) : X b ≤ X a := by
  have one : ∀ s t, s < rows.length → t ∈ ((fns rows)[s]?).getD [] → X t ≤ X s := fun s t hs ht => by
    have g := (vS_ge (X := X) (ss := stS rows s) fun m t k => h.nn _ (step_lt ok k).1).2 _ _ (fr_st ok ht)
    rw [Int.toNat_natCast] at g
    have eq := h.eq s hs
    have := Int.mul_nonneg (Int.le_of_lt h.D0) (shE_nn (enS rows s))
    have g' : 2 ^ 60 * X t ≤ vS X (stS rows s) := g
    omega
  induction k with
  | base m => exact one _ _ ha m
  | step r m ih =>
    have := one _ _ (FR.lt ok r) m
    omega
/-- where numbers solve the rows and all states lead to an end, there is no ring that takes nothing -/
theorem SolT.noR (h : SolT rows X D) (ok : MOk z rows) (lv : ∀ s, s < rows.length → lvE rows s) : NoR rows := by
  intro s hs hr
  have pos : ∀ s, s < rows.length → 0 < X s := fun s hs => h.pos ok hs (lv s hs)
  have nnT : ∀ x, ∀ st ∈ stS rows x, 0 ≤ vT X st := fun x st m => by
    rcases st_is ok st m with rfl | ⟨mo, t, rfl, m0, m1, t0, t1⟩
    · exact Int.le_refl _
    · exact Int.mul_nonneg (Int.le_of_lt (pow_pos60 mo)) (h.nn _ (by omega))
  have cl : ∀ x, FR rows s x → FR rows x s → (¬ isEnd rows x) ∧ ∀ t ∈ ((nxs rows)[x]?).getD [], FR rows s t ∧ FR rows t s := fun x h1 h2 => by
    have hx := FR.lt ok h1
    have e1 : X x = X s := by have := h.fr ok hs h1; have := h.fr ok hx h2; omega
    obtain ⟨y, my, hy⟩ := fr_first h2
    have fy : FR rows s y := .step h1 my
    have hyl := FR.lt ok fy
    have fys : FR rows y s := by
      rcases hy with rfl | hy
      · exact hr
      · exact hy
    have e2 : X y = X s := by have := h.fr ok hs fy; have := h.fr ok hyl fys; omega
    have ms := fr_st ok my
    have eq := h.eq x hx
    have p0 := pos s hs
    have hst : vT X (Th.tup [.int 0, .int (y : Int)]) = 2 ^ 60 * X s := by
      show 2 ^ (60 - 0 : Int).toNat * X ((y : Int)).toNat = _
      rw [Int.toNat_natCast, e2]
      rfl
    have nnE := Int.mul_nonneg (Int.le_of_lt h.D0) (shE_nn (enS rows x))
    have g := (vS_ge (X := X) (ss := stS rows x) fun m t k => h.nn _ (step_lt ok k).1).2 _ _ ms
    have g' : 2 ^ 60 * X s ≤ vS X (stS rows x) := by
      rw [Int.toNat_natCast, e2] at g
      exact g
    refine ⟨fun he => ?_, fun t mt => ?_⟩
    · have hE : 0 < shE (enS rows x) := by
        obtain ⟨e, ss, er, c1, _⟩ := ok.row hx
        unfold isEnd at he
        rw [er] at he
        show 0 < shE (endOf ((rows[x]?).getD .non))
        rw [er]
        rcases c1 with rfl | ⟨i, rfl, _⟩
        · exact absurd rfl he
        · exact Int.pow_pos (by decide)
      have := Int.mul_pos h.D0 hE
      rw [e1] at eq
      omega
    · obtain ⟨mo, hm⟩ := nx_st ok mt
      by_cases e : Th.tup [.int mo, .int (t : Int)] = Th.tup [.int 0, .int (y : Int)]
      · injection e with e; injection e with _ e; injection e with e _; injection e with e
        have : t = y := by omega
        rw [this]
        exact ⟨fy, fys⟩
      · have h3 := vS_two (nnT x) hm ms e
        rw [hst] at h3
        have h4 : 0 < vT X (Th.tup [.int mo, .int (t : Int)]) := by
          show 0 < 2 ^ (60 - mo).toNat * X ((t : Int)).toNat
          rw [Int.toNat_natCast]
          have := (step_lt ok hm).1
          rw [Int.toNat_natCast] at this
          exact Int.mul_pos (pow_pos60 mo) (pos t this)
        rw [e1] at eq
        omega
  obtain ⟨e, re, he⟩ := lv s hs
  have key : ∀ b, Rc rows s b → FR rows s b ∧ FR rows b s := fun b r => by
    induction r with
    | base m => rw [List.mem_singleton.mp m]; exact ⟨hr, hr⟩
    | step _ m ih => exact (cl _ ih.1 ih.2).2 _ m
  exact (cl e (key e re).1 (key e re).2).1 he
end
end KL
end
section
set_option maxHeartbeats 1000000
namespace KL
open PySem PySem.Spec PyProof.Rows L2
def spCounts (C : Addr) : Sp := fun vs H Q _ => ∃ (Z : Zone) (p dx : Addr) (u : V) (z : Int) (rows : List Th), vs = [.ref p, u] ∧ H p = some (.ins C dx []) ∧ At Z H (.tup [.int z, .tup rows]) u ∧ MOk z rows ∧ NoR (trimL z rows) ∧
  ∀ (tb : Addr) H', SB (At1 p) H H' → H tb = none → CoAt C z (trimL z rows) H' p tb 0 → Q .non H'
section
variable {P : Program} {w : World} {K : PySem.W.Frag} {mg : Str → Option Value} {base : Heap} {k : Nat} {C CM : Addr}
theorem ok_Counts (T : CoC K C) (c_trimmed : Cal P w K mg base (L2.CX P w) k "trimmed" ["machine"] (spTrimmed CM)) (c_gathered : Cal P w K mg base CX0 k "gathered" ["steps"] spGath) (c_states_in_turn : Cal P w K mg base CX0 k "states_in_turn" ["rows"] spTurn)
    (d : IDef K mg "Counts" C "Counts.__init__" s_Counts___init__ ["self", "machine"]) : ICal P w K mg base CX0 (k + 1) "Counts" C ["self", "machine"] (spCounts C) := by
  refine d.ok sc_Counts___init__ (fun vs H Q E h => ?_) (fun f cdv A outer s H vs Q E hr h => ?_)
  · obtain ⟨_, _, _, _, _, _, rfl, _⟩ := h; rfl
  obtain ⟨Zn, p, dx, u, z, rows, rfl, ep, hu, ok, nf, q⟩ := h
  refine ⟨_, (pss_cons (ps_fld (pv 0) (pe_ix ix_tup (pe_calL c_trimmed hr (by rfl) (pa_cons (pv 1) pa_nil)) pe_int (fun _ _ => rfl)) rfl)
      (pss_cons (ps_fld (pv 0) (pe_lc (own := [("end", 2), ("steps", 3)]) (g := (gTup K 2 (gCons (gName 2) (gCons (gName 3) gNil)))) (tt := tYes) rfl sc_Counts___init__.nd (pi_tup (pe_fld (pv 0) rfl)) (blkOk_by (N := ["self", "machine", "end", "steps"]) (sc := defScope s_Counts___init__) (by decide +kernel)) (fun _ _ _ _ _ => (pg_tup (by rfl) (pgs_cons (pg_name (i := 2) sc_Counts___init__.nd rfl (Or.inl rfl)) (pgs_cons (pg_name (i := 3) sc_Counts___init__.nd rfl (Or.inl rfl)) pgs_nil)))) (fun _ _ _ _ _ => pts_nil) (fun _ _ _ _ _ => (pe_cal c_gathered hr (by rfl) (pa_cons (pv 3) pa_nil)))) rfl)
      (pss_cons (ps_fld (pv 0) (pe_cal c_states_in_turn hr (by rfl) (pa_cons (pe_fld (pv 0) rfl) pa_nil)) rfl)
      (pss_one (ps_fld (pv 0) (pe_lst pa_nil) rfl))))), ?_⟩
  have okT := trimL_ok ok
  have n30 := okT.n30
  -- rows
  refine ⟨_, rfl, use_trimmed hu ok fun v H1 s1 a1 => ?_⟩
  obtain ⟨pt, pr, us, rfl, ept, epr, ar, npr⟩ := a1.mach
  refine ⟨pt, _, 1, .ref pr, rfl, rfl, .of ept, rfl, _, rfl, p, C, dx, [], rfl, s1 _ _ ep, T.cl, T.nR, (by show 0 < 1000; decide), ?_⟩
  have tp : Trk H p := .of ep
  have nprp : pr ≠ p := fun e => npr (by rw [e]; exact tp)
  have sb1 : SB (At1 p) H (upd H1 p (.ins C dx (putF "rows" (.ref pr) []))) := (SB.of s1).trans (.selfW _)
  have gp : upd H1 p (.ins C dx (putF "rows" (.ref pr) [])) p = some (.ins C dx (putF "rows" (.ref pr) [])) := upd_same
  have gpr : upd H1 p (.ins C dx (putF "rows" (.ref pr) [])) pr = some (.tup us) := by rw [upd_ne nprp]; exact epr
  have gar : AtAll (At1 p) (upd H1 p (.ins C dx (putF "rows" (.ref pr) []))) (trimL z rows) us := (ar.less fun b e => by rw [show b = p from e]; exact tp).sb (.selfW _)
  have lu := ar.len
  -- ways
  refine ⟨_, rfl, p, C, dx, _, _, rfl, gp, T.cl, T.nR, by rw [lookup_putF, if_pos rfl], pr, rfl, ⟨_, .of gpr⟩, fun D nD => ?_⟩
  generalize upd H1 p (.ins C dx (putF "rows" (.ref pr) [])) = H2 at *
  refine lc_tup (xs := us) (fun j G => Same H2 G ∧ ∃ as : List Addr, G D = some (.lst (as.map V.ref)) ∧ as.length = j ∧ ∀ (s : Nat) (a : Addr) (r : Th), as[s]? = some a → (trimL z rows)[s]? = some r → ∃ gs : List G3, a ≠ D ∧ H2 a = none ∧ G3At G a gs ∧ gs.length ≤ 8 ∧ (∀ g ∈ gs, g.1 ≤ 60 ∧ (g.2.1 : Int) < ((trimL z rows).length : Int) ∧ g.2.2 ≤ 8) ∧ (∀ f, gSum gs f = sSum (stepsOf r) f) ∧ ∀ g ∈ gs, Th.tup [.int (g.1 : Nat), .int (g.2.1 : Nat)] ∈ stepsOf r)
    ⟨same_new nD _, [], upd_same, rfl, fun s a r h => nomatch h⟩ (fun j G _ hh => .of (hh.1 _ _ gpr)) (fun j x G ex hh => ?_) (fun G hh => ?_)
  · obtain ⟨sG, as, eD, la, ha⟩ := hh
    have hj : j < (trimL z rows).length := by rw [← lu]; exact (List.getElem?_eq_some_iff.mp ex).1
    obtain ⟨pu, ve, ps, vs, e, ss, b1, b2, b3, b4, b5, b6, b7, b8, b9⟩ := row_at (gar.same sG) okT hj
    rw [b1] at ex; cases ex
    have z8 := okT.z8
    refine ⟨pu, _, rfl, .of b2, rfl, ve, _, rfl, _, _, rfl, rfl, rfl, iteT (B := False) ?_⟩
    refine ⟨_, rfl, _, ps, vs, ss, _, rfl, b3, b8, b9, by omega, fun D2 gs G2 s2 nD2 g3 lg bg sg mg => ?_⟩
    have nD2D : D2 ≠ D := fun e => by rw [e, eD] at nD2; cases nD2
    refine ⟨as.map V.ref, s2 _ _ eD, by rw [List.length_map, la, sizeLine_eq]; omega, Same.upd_new (sG.trans s2) nD _, as ++ [D2], by rw [upd_same, List.map_append]; rfl, by rw [List.length_append, la]; rfl, fun s a r ea er => ?_⟩
    have nds : ∀ {c : Addr} {g : G3}, G2 c = some (.tup [nV g.1, nV g.2.1, nV g.2.2]) → c ≠ D := fun h => ne_of h (s2 _ _ eD) (by intro z; cases z)
    rcases get_snoc ea with h | ⟨rfl, rfl⟩
    · obtain ⟨gs', n1, n2, ⟨bs, q1, q2, q3⟩, r1⟩ := ha s a r h er
      refine ⟨gs', n1, n2, ⟨bs, by rw [upd_ne n1]; exact s2 _ _ q1, q2, fun i c g ec eg => ?_⟩, r1⟩
      have e3 := s2 _ _ (q3 i c g ec eg)
      rw [upd_ne (nds e3)]; exact e3
    · rw [la, b4] at er
      cases er
      obtain ⟨bs, q1, q2, q3⟩ := g3
      refine ⟨gs, nD2D, Same.free sG nD2, ⟨bs, by rw [upd_ne nD2D]; exact q1, q2, fun i c g ec eg => ?_⟩, lg, bg, sg, mg⟩
      have e3 := q3 i c g ec eg
      rw [upd_ne (nds e3)]; exact e3
  obtain ⟨sG, as, eD, la, ha⟩ := hh
  have nDp : D ≠ p := fun e => by rw [e, gp] at nD; cases nD
  refine ⟨_, rfl, p, C, dx, _, rfl, sG _ _ gp, T.cl, T.nW, (by have := putF_le "rows" (V.ref pr) []; show _ < 1000; simp only [List.length_nil] at this; omega), ?_⟩
  have sH3 : SB (At1 p) H2 (upd G p (.ins C dx (putF "ways" (.ref D) (putF "rows" (.ref pr) [])))) := (SB.of sG).trans (.selfW _)
  have kp : upd G p (.ins C dx (putF "ways" (.ref D) (putF "rows" (.ref pr) []))) p = some (.ins C dx (putF "ways" (.ref D) (putF "rows" (.ref pr) []))) := upd_same
  have kD : upd G p (.ins C dx (putF "ways" (.ref D) (putF "rows" (.ref pr) []))) D = some (.lst (as.map V.ref)) := by rw [upd_ne nDp]; exact eD
  have kg : ∀ {b : Addr} {o : HO}, b ≠ p → G b = some o → upd G p (.ins C dx (putF "ways" (.ref D) (putF "rows" (.ref pr) []))) b = some o := fun n e => by rw [upd_ne n]; exact e
  -- order
  refine ⟨_, rfl, p, C, dx, _, _, rfl, kp, T.cl, T.nR, by rw [lookup_putF, if_neg (fun e => nWR e.symm), lookup_putF, if_pos rfl], At1 p, pr, us, z, trimL z rows, rfl, sH3 _ _ nprp gpr, gar.sb sH3, okT, nf, fun O ord H4 s4 nO eO tk lo => ?_⟩
  have nOp : O ≠ p := fun e => by rw [e, kp] at nO; cases nO
  refine ⟨_, rfl, p, C, dx, _, rfl, s4 _ _ kp, T.cl, T.nO, (by have := putF_le "rows" (V.ref pr) []; have := putF_le "ways" (V.ref D) (putF "rows" (V.ref pr) []); simp only [List.length_nil] at *; show _ < 1000; omega), (by show 0 ≤ sizeLine; decide), fun tb ntb => ?_⟩
  have l1 := putF_le "rows" (V.ref pr) []
  have l2 := putF_le "ways" (V.ref D) (putF "rows" (.ref pr) [])
  have l3 := putF_le "order" (V.ref O) (putF "ways" (.ref D) (putF "rows" (.ref pr) []))
  simp only [List.length_nil] at l1
  have sH5 : SB (At1 p) H4 (upd H4 p (.ins C dx (putF "order" (.ref O) (putF "ways" (.ref D) (putF "rows" (.ref pr) []))))) := .selfW _
  have k5 : upd H4 p (.ins C dx (putF "order" (.ref O) (putF "ways" (.ref D) (putF "rows" (.ref pr) [])))) p = some (.ins C dx (putF "order" (.ref O) (putF "ways" (.ref D) (putF "rows" (.ref pr) [])))) := upd_same
  generalize upd H4 p (.ins C dx (putF "order" (.ref O) (putF "ways" (.ref D) (putF "rows" (.ref pr) [])))) = H5 at *
  have z6 := same_new ntb (.lst [])
  have ntp : tb ≠ p := fun e => by rw [e, k5] at ntb; cases ntb
  have e6 : upd H5 tb (.lst []) tb = some (.lst []) := upd_same
  refine ⟨_, rfl, p, C, dx, _, rfl, z6 _ _ k5, T.cl, T.nT, (by show _ < 1000; omega), ?_⟩
  generalize upd H5 tb (.lst []) = H6 at *
  have sA : SB (At1 p) H4 H6 := sH5.trans (.of z6)
  have sB : SB (At1 p) G H6 := ((SB.selfW _).trans (.of s4)).trans sA
  have sC : SB (At1 p) H2 H6 := (SB.of sG).trans sB
  have sF : SB (At1 p) H6 (upd H6 p (.ins C dx (flC pr D O tb))) := .selfW _
  have sT := sB.trans sF
  have fr : ∀ b o, b ≠ p → H2 b = some o → upd H6 p (.ins C dx (flC pr D O tb)) b = some o := fun b o n e => (sC.trans sF) b o n e
  have sG5 : SB (At1 p) G H5 := ((SB.selfW _).trans (.of s4)).trans sH5
  have ntH : ∀ {b : Addr} {o : HO}, b ≠ p → G b = some o → b ≠ tb := fun {b o} n h e => by
    have h5 := sG5 b o n h
    rw [e, ntb] at h5
    cases h5
  have nDt := ntH nDp eD
  have eOt : O ≠ tb := fun e => by
    have := sH5 _ _ nOp eO
    rw [e, ntb] at this
    cases this
  refine q tb _ ((sb1.trans sC).trans sF) ?_ ⟨dx, pr, D, O, us, as, ord, [], upd_same, fr _ _ nprp gpr, ?_, sT _ _ nDp eD, by rw [la, lu], fun s a r ea er => ?_, (sA.trans sF) _ _ nOp eO, tk, lo, nDt, eOt, by rw [upd_ne ntp]; exact e6, rfl, fun b a h => by cases h⟩
  · cases h : H tb with
    | none => rfl
    | some o =>
      have := (((sb1.trans (.of sG)).trans ((SB.selfW _).trans (.of s4))).trans sH5) _ _ ntp h
      rw [ntb] at this
      cases this
  · exact (gar.step (Z' := At1 tb) (sC.trans sF) fun a n t e => by
      rw [show a = tb from e] at t
      obtain ⟨o, ho⟩ := Option.ne_none_iff_exists'.mp t
      exact ntH ntp (sG _ _ ho) rfl)
  · obtain ⟨gs, n1, n2, ⟨bs, q1, q2, q3⟩, r1⟩ := ha s a r ea er
    have nap : a ≠ p := fun e => by rw [e, gp] at n2; cases n2
    refine ⟨gs, ⟨bs, sT _ _ nap q1, q2, fun i c g ec eg => ?_⟩, ntH nap q1, r1⟩
    have e3 := q3 i c g ec eg
    exact sT _ _ (ne_of e3 (sG _ _ gp) (by intro z; cases z)) e3
end
end KL
end
section
set_option maxHeartbeats 2000000
namespace KL
open PySem PySem.Spec PyProof.Rows L2
def IdleT (z : Int) (rows : List Th) (H H' : Hp) (tv : V) : Prop := (tv = .non ∧ ∀ s, s < rows.length → ¬ FR rows s s) ∨ ∃ (s : Nat) (ls : List Th), At (Trk H) H' (pairT (s, ls)) tv ∧ s < rows.length ∧ Lets z ls ∧ ls ≠ [] ∧ ls.length ≤ 100 ∧ fwalk rows s ls = some s
def spIdle1 (CM : Addr) : Sp := fun vs H Q E => ∃ (Z : Zone) (u : V) (e : Th), vs = [u] ∧ At Z H e u ∧ shortT e = true ∧
  (∀ z rows, e = .tup [.int z, .tup rows] → MOk z rows → ∀ tv H', Same H H' → IdleT z (trimL z rows) H H' tv → Q tv H') ∧ (machB e = false → ∀ H', Same H H' → E (.ref CM) none H')
theorem ringB_len (rows : List Th) : ((List.range rows.length).filter (ringB rows)).length = 0 ↔ ∀ s, s < rows.length → ¬ FR rows s s := by
  rw [List.length_eq_zero_iff, List.filter_eq_nil_iff]
  constructor
  · intro h s hs r
    exact h s (List.mem_range.mpr hs) (ringB_iff.mpr r)
  · intro h s hs r
    exact h s (List.mem_range.mp hs) (ringB_iff.mp r)
theorem ring_of {z : Int} {rows : List Th} {s : Nat} {ls : List Th} (hs : s < rows.length) (hL : Lets z ls) (hn : ls ≠ []) (hw : fwalk rows s ls = some s) : ringT z rows (pairT (s, ls)) = true := by
  have e := ringT_eq (z := z) hs hL.text hn
  rw [decide_eq_true hw] at e
  exact e
theorem IdleT.flag {z : Int} {rows : List Th} {H H' : Hp} {tv : V} (h : IdleT z rows H H' tv) : decide (tv = V.non) = decide (V.int (((((List.range rows.length).filter (ringB rows)).map nV).length : Nat) : Int) = V.int 0) := by
  rw [List.length_map]
  rcases h with ⟨rfl, h⟩ | ⟨s, ls, h, hs, hL, hn, _, hw⟩
  · rw [(ringB_len rows).mpr h]
    rfl
  · obtain ⟨p, us, rfl, _⟩ := h
    have hf : FR rows s s := (ringT_FR (ring_of hs hL hn hw)).1
    rw [decide_eq_false (fun e : V.ref p = V.non => nomatch e), decide_eq_false (fun e => ?_)]
    injection e with e
    exact (ringB_len rows).mp (by omega) s hs hf
section
variable {P : Program} {w : World} {K : PySem.W.Frag} {mg : Str → Option Value} {base : Heap} {k : Nat}
theorem idle_one {CM : Addr} (c : Cal P w K mg base (L2.CX P w) k "idle" ["machine"] (spIdle CM)) : Cal P w K mg base (L2.CX P w) k "idle" ["machine"] (spIdle1 CM) :=
  c.imp fun vs H Q E h => by
    obtain ⟨Zn, u, e, rfl, hu, se, q1, q0⟩ := h
    exact ⟨Zn, u, e, rfl, hu, se, fun z rows e1 ok => ⟨fun v H' s ls s' a hs hL hn hl hw => q1 z rows e1 ok v H' s' (.inr ⟨s, ls, a, hs, hL, hn, hl, hw⟩), fun nr H' s' => q1 z rows e1 ok _ H' s' (.inl ⟨rfl, nr⟩)⟩, q0⟩
end
end KL
end
section
set_option maxHeartbeats 1000000
namespace KL
open PySem PySem.Spec PyProof.Rows L2
/-! ### the text at a place -/
theorem tx_flat {zi : Int} {R : List Th} (ok : MOk zi R) (nf : NoR R) {z b s pl : Nat} {rest : List Nat} (h : (tx R z b s)[pl]? = some rest) :
    (finN R s = some b ∧ pl = 0 ∧ rest = []) ∨ ∃ pl', pl = (if finN R s = some b then 1 else 0) + pl' ∧ ((List.range z).flatMap (txL R z b s))[pl']? = some rest := by
  rw [tx_rec ok nf] at h
  by_cases hf : finN R s = some b
  · rw [if_pos hf] at h ⊢
    cases pl with
    | zero => exact .inl ⟨hf, rfl, (Option.some.inj h).symm⟩
    | succ n => exact .inr ⟨n, by omega, by simpa using h⟩
  · rw [if_neg hf] at h ⊢
    exact .inr ⟨pl, by omega, by simpa using h⟩
def sumC (R : List Th) (z b s l : Nat) : Nat := ((List.range l).map fun k => cst R z b (stp R s k)).sum
theorem sumC_succ (R : List Th) (z b s l : Nat) : sumC R z b s (l + 1) = sumC R z b s l + cst R z b (stp R s l) := by
  unfold sumC
  rw [List.range_succ, List.map_append, List.sum_append]
  simp
theorem flat_len (R : List Th) (z b s l : Nat) : ((List.range l).flatMap (txL R z b s)).length = sumC R z b s l := by
  rw [List.length_flatMap]
  unfold sumC
  congr 1
  exact List.map_congr_left fun k _ => txL_len R z b s k
theorem flat_hit {R : List Th} {z b s l p : Nat} {rest : List Nat} (hl : l < z) (hp : p < cst R z b (stp R s l)) (h : ((List.range z).flatMap (txL R z b s))[sumC R z b s l + p]? = some rest) :
    ∃ m t rest', stp R s l = some (m, t) ∧ m ≤ b ∧ rest = l :: rest' ∧ (tx R z (b - m) t)[p]? = some rest' := by
  rw [← flat_len, flat_get _ _ _ _ (by omega), show z - l = (z - l - 1) + 1 by omega, List.range'_succ, List.flatMap_cons, List.getElem?_append_left (by rw [txL_len]; exact hp)] at h
  cases e : stp R s l with
  | none => rw [e] at hp; exact absurd hp (Nat.not_lt_zero _)
  | some q =>
    obtain ⟨m, t⟩ := q
    rw [e] at hp
    rw [cstE] at hp
    by_cases hm : m ≤ b
    · unfold txL at h
      rw [e] at h
      dsimp only at h
      rw [if_pos hm] at h
      obtain ⟨rest', e1, e2⟩ := map_get h
      exact ⟨m, t, rest', rfl, hm, e2, e1⟩
    · rw [if_neg hm] at hp
      exact absurd hp (Nat.not_lt_zero _)
theorem flat_end {R : List Th} {z b s p : Nat} {rest : List Nat} (h : ((List.range z).flatMap (txL R z b s))[sumC R z b s z + p]? = some rest) : False := by
  have := (List.getElem?_eq_some_iff.mp h).1
  rw [flat_len] at this
  omega
theorem plc_cons {R : List Th} {z b s l m t : Nat} {ls : List Nat} (e : stp R s l = some (m, t)) : plc R z b s (l :: ls) = (if finN R s = some b then 1 else 0) + sumC R z b s l + plc R z (b - m) t ls := by
  rw [plc, e]
  rfl
theorem lnN_cons {R : List Th} {b s l : Nat} {ls : List Nat} (h : lnN R s (l :: ls) = some b) : ∃ m t, stp R s l = some (m, t) ∧ m ≤ b ∧ lnN R t ls = some (b - m) := by
  rw [lnN] at h
  cases e : stp R s l with
  | none => rw [e] at h; cases h
  | some q =>
    obtain ⟨m, t⟩ := q
    rw [e] at h
    dsimp only at h
    obtain ⟨c, hc, hb⟩ := Option.map_eq_some_iff.mp h
    exact ⟨m, t, rfl, by omega, by rw [hc]; congr 1; omega⟩
theorem stp_lt {zi : Int} {R : List Th} (ok : MOk zi R) {s l m t : Nat} (e : stp R s l = some (m, t)) : t < R.length ∧ m ≤ 60 ∧ stepAt R s l = .tup [.int (m : Nat), .int (t : Nat)] := by
  unfold stp at e
  rcases stepAt_is ok s l with q | ⟨m', t', q, m0, m1, t0, t1⟩
  · rw [q] at e; cases e
  · rw [q] at e ⊢
    have e' := Option.some.inj e
    injection e' with e1 e2
    refine ⟨by omega, by omega, ?_⟩
    rw [← e1, ← e2, Int.toNat_of_nonneg m0, Int.toNat_of_nonneg t0]
theorem stp_of {R : List Th} {s l : Nat} {m t : Int} (e : stepAt R s l = .tup [.int m, .int t]) : stp R s l = some (m.toNat, t.toNat) := by
  unfold stp
  rw [e]
theorem stp_none {R : List Th} {s l : Nat} (e : stepAt R s l = .non) : stp R s l = none := by
  unfold stp
  rw [e]
theorem thN_at {Z : Zone} {H : Hp} : ∀ ls : List Nat, AtAll Z H (thN ls) (ls.map nV)
  | [] => .nil
  | l :: ls => .cons (show At Z H (.int (l : Nat)) (nV l) from rfl) (thN_at ls)
def spTextIn (C : Addr) : Sp := fun vs H Q _ => ∃ (p tb : Addr) (zi : Int) (R : List Th) (j b pl : Nat) (ls : List Nat) (Zn : Zone), vs = [.ref p, .int (b : Nat), .int (pl : Nat)] ∧ CoAt C zi R H p tb j ∧ MOk zi R ∧ NoR R ∧ j ≤ 90000 ∧ b ≤ 80000 ∧ (∀ a, Zn a → Trk H a) ∧ CoZn Zn C H p tb ∧ (tx R zi.toNat b 0)[pl]? = some ls ∧
  ∀ j' v H', SB (At1 tb) H H' → CoAt C zi R H' p tb j' → CoZn Zn C H' p tb → j ≤ j' → (j' ≤ j ∨ j' ≤ b + 1) → At (Trk H) H' (.tup (thN ls)) v → Q v H'
def spPlaceIn (C : Addr) : Sp := fun vs H Q _ => ∃ (Z : Zone) (p tb : Addr) (zi : Int) (R : List Th) (j b : Nat) (ls : List Nat) (v : V) (Zn : Zone), vs = [.ref p, v, .int (b : Nat)] ∧ CoAt C zi R H p tb j ∧ MOk zi R ∧ NoR R ∧ j ≤ 90000 ∧ b ≤ 80000 ∧ (∀ a, Zn a → Trk H a) ∧ CoZn Zn C H p tb ∧ At Z H (.tup (thN ls)) v ∧ (∀ l ∈ ls, l < zi.toNat) ∧ lnN R 0 ls = some b ∧
  ∀ j' H', SB (At1 tb) H H' → CoAt C zi R H' p tb j' → CoZn Zn C H' p tb → j ≤ j' → (j' ≤ j ∨ j' ≤ b + 1) → Q (nV (plc R zi.toNat b 0 ls)) H'
section
variable {P : Program} {w : World} {K : PySem.W.Frag} {mg : Str → Option Value} {base : Heap} {k : Nat} {C CM : Addr}
end
end KL
end
section
set_option maxHeartbeats 1000000
namespace KL
open PySem PySem.Spec PyProof.Rows L2
/-! ### the texts up to a length, weighed, are at most the solution -/
/-- Σ over the lengths b up to n of the number c b, each twice as heavy as the next -/
def wsum (c : Nat → Nat) : Nat → Nat
  | 0 => c 0
  | n + 1 => 2 * wsum c n + c (n + 1)
theorem wsum_congr {c d : Nat → Nat} : ∀ {n : Nat}, (∀ b, b ≤ n → c b = d b) → wsum c n = wsum d n
  | 0, h => h 0 (Nat.le_refl _)
  | n + 1, h => by
    rw [wsum, wsum, wsum_congr (n := n) fun b hb => h b (by omega), h (n + 1) (Nat.le_refl _)]
theorem wsum_add (c d : Nat → Nat) : ∀ n, wsum (fun b => c b + d b) n = wsum c n + wsum d n
  | 0 => rfl
  | n + 1 => by rw [wsum, wsum, wsum, wsum_add c d n]; omega
theorem wsum_zero : ∀ n, wsum (fun _ => 0) n = 0
  | 0 => rfl
  | n + 1 => by rw [wsum, wsum_zero n]
theorem wsum_one (e : Nat) : ∀ n, wsum (fun b => if e = b then 1 else 0) n = if e ≤ n then 2 ^ (n - e) else 0
  | 0 => by
    show (if e = 0 then 1 else 0) = _
    by_cases h : e = 0
    · rw [if_pos h, if_pos (by omega), h]
    · rw [if_neg h, if_neg (by omega)]
  | n + 1 => by
    rw [wsum, wsum_one e n]
    by_cases h : e ≤ n
    · rw [if_pos h, if_neg (by omega), if_pos (by omega), show n + 1 - e = (n - e) + 1 by omega, Nat.pow_succ]
      omega
    · rw [if_neg h]
      by_cases h2 : e = n + 1
      · rw [if_pos h2, if_pos (by omega), h2, Nat.sub_self]
      · rw [if_neg h2, if_neg (by omega)]
theorem wsum_shift (c : Nat → Nat) (m : Nat) : ∀ n, wsum (fun b => if m ≤ b then c (b - m) else 0) n = if m ≤ n then wsum c (n - m) else 0
  | 0 => by
    show (if m ≤ 0 then c (0 - m) else 0) = _
    by_cases h : m ≤ 0
    · rw [if_pos h, if_pos h, Nat.zero_sub]; rfl
    · rw [if_neg h, if_neg h]
  | n + 1 => by
    rw [wsum, wsum_shift c m n]
    by_cases h : m ≤ n
    · rw [if_pos h, if_pos (by omega), if_pos (by omega), show n + 1 - m = (n - m) + 1 by omega]
      rfl
    · rw [if_neg h]
      by_cases h2 : m ≤ n + 1
      · rw [if_pos h2, if_pos h2, show n + 1 - m = 0 by omega, Nat.mul_zero, Nat.zero_add]
        rfl
      · rw [if_neg h2, if_neg h2]
theorem wsum_list {α : Type} (g : α → Nat → Nat) : ∀ (xs : List α) (n : Nat), wsum (fun b => (xs.map fun x => g x b).sum) n = (xs.map fun x => wsum (g x) n).sum
  | [], n => wsum_zero n
  | x :: xs, n => by
    rw [List.map_cons, List.sum_cons, ← wsum_list g xs n, ← wsum_add]
    exact wsum_congr fun b _ => by rw [List.map_cons, List.sum_cons]
def lT (rows : List Th) (z f : Nat) (b : Nat) : Option (Nat × Nat) → Nat
  | some (m, t) => if m ≤ b then (txF rows z f (b - m) t).length else 0
  | none => 0
theorem txF_len (rows : List Th) (z f b s : Nat) : (txF rows z (f + 1) b s).length = (if finN rows s = some b then 1 else 0) + ((List.range z).map fun l => lT rows z f b (stp rows s l)).sum := by
  rw [txF, List.length_append, List.length_flatMap]
  congr 1
  · split <;> rfl
  · congr 1
    refine List.map_congr_left fun l _ => ?_
    unfold lT
    cases stp rows s l with
    | none => rfl
    | some q =>
      obtain ⟨m, t⟩ := q
      dsimp only
      split
      · rw [List.length_map]
      · rfl
section
variable {z : Int} {rows : List Th} {X : Nat → Int} {D : Int}
theorem vT_nn (h : SolT rows X D) (ok : MOk z rows) (s : Nat) : ∀ st ∈ stS rows s, 0 ≤ vT X st := fun st m => by
  rcases st_is ok st m with rfl | ⟨mo, t, rfl, m0, m1, t0, t1⟩
  · exact Int.le_refl _
  · exact Int.mul_nonneg (Int.le_of_lt (pow_pos60 mo)) (h.nn _ (by omega))
/-- what a step takes of 2 ^ n -/
def wS (rows : List Th) (z f n : Nat) : Option (Nat × Nat) → Nat
  | some (m, t) => if m ≤ n then wsum (fun b => (txF rows z f b t).length) (n - m) else 0
  | none => 0
theorem SolT.room (h : SolT rows X D) (ok : MOk z rows) : ∀ f n s, s < rows.length → D * ((wsum (fun b => (txF rows z.toNat f b s).length) n : Nat) : Int) ≤ 2 ^ n * X s
  | 0, n, s, hs => by
    rw [show wsum (fun b => (txF rows z.toNat 0 b s).length) n = 0 from wsum_zero n]
    have : (0 : Int) ≤ 2 ^ n * X s := Int.mul_nonneg (Int.pow_nonneg (by decide)) (h.nn s hs)
    simpa using this
  | f + 1, n, s, hs => by
    have e1 : wsum (fun b => (txF rows z.toNat (f + 1) b s).length) n = wsum (fun b => if finN rows s = some b then 1 else 0) n + ((List.range z.toNat).map fun l => wS rows z.toNat f n (stp rows s l)).sum := by
      rw [wsum_congr fun b _ => txF_len rows z.toNat f b s, wsum_add, wsum_list (fun l b => lT rows z.toNat f b (stp rows s l))]
      congr 2
      refine List.map_congr_left fun l _ => ?_
      unfold lT wS
      cases stp rows s l with
      | none => exact wsum_zero n
      | some q =>
        obtain ⟨m, t⟩ := q
        exact wsum_shift (fun b => (txF rows z.toNat f b t).length) m n
    rw [e1]
    obtain ⟨e, ss, er, c1, c2, c3⟩ := ok.row hs
    have eq := h.eq s hs
    have hss : stS rows s = ss := by show stepsOf ((rows[s]?).getD .non) = ss; rw [er]; rfl
    have hen : enS rows s = e := by show endOf ((rows[s]?).getD .non) = e; rw [er]; rfl
    -- the end
    have hE : 2 ^ 60 * (D * ((wsum (fun b => if finN rows s = some b then 1 else 0) n : Nat) : Int)) ≤ 2 ^ n * (D * shE (enS rows s)) := by
      have D0 := h.D0
      rw [hen]
      rcases c1 with rfl | ⟨i, rfl, i1, i2⟩
      · have : finN rows s = none := by unfold finN; rw [er]; rfl
        rw [wsum_congr (d := fun _ => 0) fun b _ => by rw [this, if_neg (by simp)], wsum_zero]
        simp [shE]
      · have hf : finN rows s = some i.toNat := by unfold finN; rw [er]; rfl
        rw [wsum_congr (d := fun b => if i.toNat = b then 1 else 0) fun b _ => by rw [hf]; simp, wsum_one]
        show _ ≤ 2 ^ n * (D * 2 ^ (60 - i).toNat)
        by_cases hi : i.toNat ≤ n
        · rw [if_pos hi]
          have e2 : (2 : Int) ^ 60 * (D * ((2 ^ (n - i.toNat) : Nat) : Int)) = 2 ^ n * (D * 2 ^ (60 - i).toNat) := by
            rw [Int.natCast_pow]
            have e3 : (2 : Int) ^ 60 * 2 ^ (n - i.toNat) = 2 ^ n * 2 ^ (60 - i).toNat := by
              rw [← Int.pow_add, ← Int.pow_add]
              congr 1
              omega
            calc (2 : Int) ^ 60 * (D * 2 ^ (n - i.toNat)) = D * (2 ^ 60 * 2 ^ (n - i.toNat)) := by rw [← Int.mul_assoc, ← Int.mul_assoc, Int.mul_comm D]
              _ = D * (2 ^ n * 2 ^ (60 - i).toNat) := by rw [e3]
              _ = 2 ^ n * (D * 2 ^ (60 - i).toNat) := by rw [← Int.mul_assoc, ← Int.mul_assoc, Int.mul_comm D]
          exact Int.le_of_eq e2
        · rw [if_neg hi]
          have : (0 : Int) ≤ 2 ^ n * (D * 2 ^ (60 - i).toNat) := Int.mul_nonneg (Int.pow_nonneg (by decide)) (Int.mul_nonneg (by omega) (Int.pow_nonneg (by decide)))
          simpa using this
    -- the steps
    have hS : 2 ^ 60 * (D * ((((List.range z.toNat).map fun l => wS rows z.toNat f n (stp rows s l)).sum : Nat) : Int)) ≤ 2 ^ n * vS X (stS rows s) := by
      have key : ∀ k, k ≤ ss.length → 2 ^ 60 * (D * ((((List.range k).map fun l => wS rows z.toNat f n (stp rows s l)).sum : Nat) : Int)) ≤ 2 ^ n * vS X (ss.take k) := by
        intro k
        induction k with
        | zero => intro _; simp [vS]
        | succ k ih =>
          intro hk
          have ih := ih (by omega)
          have ek : ss[k]? = some ss[k] := List.getElem?_eq_getElem (by omega)
          rw [List.range_succ, List.map_append, List.sum_append, List.take_add_one, ek, vS_app, Int.natCast_add, Int.mul_add, Int.mul_add, Int.mul_add]
          have e4 : stepAt rows s k = (ss[k]?).getD .non := by unfold stepAt; rw [er]; rfl
          have : 2 ^ 60 * (D * (((([k].map fun l => wS rows z.toNat f n (stp rows s l)).sum : Nat)) : Int)) ≤ 2 ^ n * vS X (some ss[k]).toList := by
            rw [List.map_singleton, List.sum_singleton, show (some ss[k]).toList = [ss[k]] from rfl, vS_cons, vS_nil, Int.add_zero]
            have nnv := vT_nn h ok s ss[k] (by rw [hss]; exact List.getElem_mem _)
            rcases c3 ss[k] (List.getElem_mem _) with q | ⟨mo, t, q, m0, m1, t0, t1⟩
            · rw [stp_none (by rw [e4, ek, q]; rfl)]
              have : (0 : Int) ≤ 2 ^ n * vT X ss[k] := Int.mul_nonneg (Int.pow_nonneg (by decide)) nnv
              simpa [wS] using this
            · rw [stp_of (by rw [e4, ek, q]; rfl)]
              unfold wS
              dsimp only
              by_cases hm : mo.toNat ≤ n
              · rw [if_pos hm]
                have ih2 := SolT.room h ok f (n - mo.toNat) t.toNat (by omega)
                rw [q]
                show _ ≤ 2 ^ n * (2 ^ (60 - mo).toNat * X t.toNat)
                have e5 : (2 : Int) ^ n * (2 ^ (60 - mo).toNat * X t.toNat) = 2 ^ 60 * (2 ^ (n - mo.toNat) * X t.toNat) := by
                  rw [← Int.mul_assoc, ← Int.mul_assoc, ← Int.pow_add, ← Int.pow_add]
                  congr 2
                  omega
                rw [e5]
                exact Int.mul_le_mul_of_nonneg_left ih2 (by decide)
              · rw [if_neg hm]
                have : (0 : Int) ≤ 2 ^ n * vT X ss[k] := Int.mul_nonneg (Int.pow_nonneg (by decide)) nnv
                simpa using this
          omega
      have := key ss.length (Nat.le_refl _)
      rw [List.take_length, show ss.length = z.toNat by omega, ← hss] at this
      exact this
    have tot : 2 ^ 60 * (D * (((wsum (fun b => if finN rows s = some b then 1 else 0) n + ((List.range z.toNat).map fun l => wS rows z.toNat f n (stp rows s l)).sum : Nat)) : Int)) ≤ 2 ^ 60 * (2 ^ n * X s) := by
      have e6 : (2 : Int) ^ 60 * (2 ^ n * X s) = 2 ^ n * vS X (stS rows s) + 2 ^ n * (D * shE (enS rows s)) := by
        rw [← Int.mul_add, eq, ← Int.mul_assoc, ← Int.mul_assoc, Int.mul_comm (2 ^ 60 : Int)]
      rw [e6, Int.natCast_add, Int.mul_add, Int.mul_add]
      omega
    omega
/-- by the counts themselves -/
theorem SolT.roomC (h : SolT rows X D) (ok : MOk z rows) (nf : NoR rows) (n s : Nat) (hs : s < rows.length) : D * ((wsum (fun b => ctN rows z.toNat b s) n : Nat) : Int) ≤ 2 ^ n * X s := by
  have e : wsum (fun b => ctN rows z.toNat b s) n = wsum (fun b => (txF rows z.toNat (rows.length * n + 1) b s).length) n := wsum_congr fun b hb => by
    unfold ctN tx
    rw [txF_stable (f := rows.length * b + 1) (g := rows.length * n + 1) (fun ls _ h => by have := lnN_bound ok nf h; omega) (fun ls _ h => by
      have := lnN_bound ok nf h
      have : rows.length * b ≤ rows.length * n := Nat.mul_le_mul_left _ hb
      omega)]
  rw [e]
  exact h.room ok _ n s hs
end
end KL
end
section
set_option maxHeartbeats 1000000
namespace KL
open PySem PySem.Spec PyProof.Rows L2
abbrev sc_law_plusN : List Str := ["_law_one", "_law_other"]
abbrev s_law_plus : Stmt := topS 57
theorem sc_law_plus : FnScope ["_law_one", "_law_other"] ["_law_one", "_law_other"] (defScope s_law_plus) := ⟨rfl, rfl, rfl, by decide +kernel, rfl, by decide +kernel, by decide +kernel⟩
abbrev sc_law_is_lessN : List Str := ["_law_one", "_law_other"]
abbrev s_law_is_less : Stmt := topS 64
theorem sc_law_is_less : FnScope ["_law_one", "_law_other"] ["_law_one", "_law_other"] (defScope s_law_is_less) := ⟨rfl, rfl, rfl, by decide +kernel, rfl, by decide +kernel, by decide +kernel⟩
abbrev sc_law_endsN : List Str := ["_law_small", "_law_end", "_law_steps"]
abbrev s_law_ends : Stmt := topS 63
theorem sc_law_ends : FnScope ["_law_small", "_law_end", "_law_steps"] ["_law_small"] (defScope s_law_ends) := ⟨rfl, rfl, rfl, by decide +kernel, rfl, by decide +kernel, by decide +kernel⟩
abbrev sc_law_steppedN : List Str := ["_law_small", "_law_row", "_law_found", "_law_end", "_law_steps", "_law_one", "_law_step", "_law_top", "_law_bottom"]
abbrev s_law_stepped : Stmt := topS 62
theorem sc_law_stepped : FnScope ["_law_small", "_law_row", "_law_found", "_law_end", "_law_steps", "_law_one", "_law_step", "_law_top", "_law_bottom"] ["_law_small", "_law_row"] (defScope s_law_stepped) := ⟨rfl, rfl, rfl, by decide +kernel, rfl, by decide +kernel, by decide +kernel⟩
/-- a fraction: its two numbers -/
theorem fr_parts {a b : Int} (hb : 0 < b) : ∃ lo bo g : Int, frT a b = .tup [.int lo, .int bo] ∧ 0 < g ∧ 0 < bo ∧ lo * g = a ∧ bo * g = b ∧ lo.natAbs ≤ a.natAbs ∧ bo ≤ b := by
  obtain ⟨h1, h2, h3⟩ := low_parts (a := a) hb
  have g0 : 0 < ((Nat.gcd a.natAbs b.natAbs : Nat) : Int) := by
    have : 0 < Nat.gcd a.natAbs b.natAbs := Nat.gcd_pos_of_pos_right _ (by omega)
    omega
  refine ⟨_, _, _, rfl, g0, h3, h1, h2, ?_, ?_⟩
  · have : (lowT a b).natAbs ≤ (lowT a b * ((Nat.gcd a.natAbs b.natAbs : Nat) : Int)).natAbs := by
      rw [Int.natAbs_mul]
      exact Nat.le_mul_of_pos_right _ (by omega)
    rw [h1] at this
    exact this
  · have := Int.mul_le_mul_of_nonneg_left (show (1 : Int) ≤ ((Nat.gcd a.natAbs b.natAbs : Nat) : Int) by omega) (Int.le_of_lt h3)
    rw [Int.mul_one, h2] at this
    exact this
theorem sgP_fr {a b : Int} (hb : 0 < b) : Th.tup [.int (a / sgcd a b), .int (b / sgcd a b)] = frT a b := by
  unfold sgcd
  rw [if_neg (by omega)]
  rfl
def spPlus : Sp := fun vs H Q _ => ∃ (Z : Zone) (u v : V) (a b c e : Int), vs = [u, v] ∧ At Z H (frT a b) u ∧ At Z H (frT c e) v ∧ 0 < b ∧ 0 < e ∧ a.natAbs < 2 ^ 9000 ∧ c.natAbs < 2 ^ 9000 ∧ b.natAbs < 2 ^ 4450 ∧ e.natAbs < 2 ^ 4450 ∧ ∀ y H', Same H H' → At (Trk H) H' (frT (a * e + c * b) (b * e)) y → Q y H'
def spLess : Sp := fun vs H Q _ => ∃ (Z : Zone) (u v : V) (a b c e : Int), vs = [u, v] ∧ At Z H (frT a b) u ∧ At Z H (frT c e) v ∧ 0 < b ∧ 0 < e ∧ a.natAbs < 2 ^ 9000 ∧ c.natAbs < 2 ^ 9000 ∧ b.natAbs < 2 ^ 4450 ∧ e.natAbs < 2 ^ 4450 ∧ Q (.bl (decide (a * e < c * b))) H
section
variable {P : Program} {w : World} {K : PySem.W.Frag} {mg : Str → Option Value} {base : Heap} {k : Nat} {t1 t2 t3 : Tok}
theorem ok_law_plus (c_law_reduced : Cal P w K mg base CX0 k "_law_reduced" ["_law_top", "_law_bottom"] spReduced) (d : Def K mg "_law_plus" s_law_plus ["_law_one", "_law_other"]) : Cal P w K mg base CX0 (k + 1) "_law_plus" ["_law_one", "_law_other"] spPlus := by
  refine d.ok sc_law_plus (fun vs H Q E h => ?_) (fun f cdv A outer s H vs Q E hr h => ?_)
  · obtain ⟨_, _, _, _, _, _, _, rfl, _⟩ := h; rfl
  obtain ⟨Zn, u, v, a, b, c, e, rfl, hu, hv, hb, he, ba, bc, bb, be, q⟩ := h
  refine ⟨_, (pss_one (ps_ret (pe_cal c_law_reduced hr (by rfl) (pa_cons (pe_op op_add (pe_op op_mulW (pe_ix ix_tup (pv 0) pe_int (fun _ _ => rfl)) (pe_ix ix_tup (pv 1) pe_int (fun _ _ => rfl))) (pe_op op_mulW (pe_ix ix_tup (pv 1) pe_int (fun _ _ => rfl)) (pe_ix ix_tup (pv 0) pe_int (fun _ _ => rfl)))) (pa_cons (pe_op op_mulW (pe_ix ix_tup (pv 0) pe_int (fun _ _ => rfl)) (pe_ix ix_tup (pv 1) pe_int (fun _ _ => rfl))) pa_nil))))), ?_⟩
  obtain ⟨l1, o1, g1, f1, g10, o10, e1, e2, m1, m2⟩ := fr_parts (a := a) hb
  obtain ⟨l2, o2, g2, f2, g20, o20, e3, e4, m3, m4⟩ := fr_parts (a := c) he
  rw [f1] at hu
  rw [f2] at hv
  obtain ⟨p1, u1, u2, rfl, ep1, h1, h2⟩ := hu.pair
  cases h1; cases h2
  obtain ⟨p2, u3, u4, rfl, ep2, h3, h4⟩ := hv.pair
  cases h3; cases h4
  have w1 : l1.natAbs < 2 ^ 9000 := by omega
  have w2 : l2.natAbs < 2 ^ 9000 := by omega
  have w3 : o1.natAbs < 2 ^ 4450 := by omega
  have w4 : o2.natAbs < 2 ^ 4450 := by omega
  have cm1 : CMulW l1 o2 := wide_mul w1 w4 (by decide) (by decide) (by decide)
  have cm2 : CMulW l2 o1 := wide_mul w2 w3 (by decide) (by decide) (by decide)
  have cm3 : CMulW o1 o2 := wide_mul w3 w4 (by decide) (by decide) (by decide)
  have wo : (o1 * o2).natAbs < 2 ^ 8900 := by
    rw [Int.natAbs_mul, show 8900 = 4450 + 4450 from rfl, Nat.pow_add]
    exact Nat.mul_lt_mul_of_lt_of_lt w3 w4
  have po : 0 < o1 * o2 := Int.mul_pos o10 o20
  refine ⟨_, rfl, p1, _, 0, .int l1, rfl, rfl, .of ep1, rfl, _, rfl, p2, _, 1, .int o2, rfl, rfl, .of ep2, rfl, _, _, rfl, rfl, cm1, ?_⟩
  refine ⟨_, rfl, p2, _, 0, .int l2, rfl, rfl, .of ep2, rfl, _, rfl, p1, _, 1, .int o1, rfl, rfl, .of ep1, rfl, _, _, rfl, rfl, cm2, _, _, rfl, rfl, ?_⟩
  refine ⟨_, rfl, p1, _, 1, .int o1, rfl, rfl, .of ep1, rfl, _, rfl, p2, _, 1, .int o2, rfl, rfl, .of ep2, rfl, _, _, rfl, rfl, cm3, _, _, rfl, by omega, wo, fun p H' s' np ep => ?_⟩
  refine q _ H' s' ?_
  have ef : frT (a * e + c * b) (b * e) = frT (l1 * o2 + l2 * o1) (o1 * o2) := (frT_eq (Int.mul_pos hb he) po (by
    rw [← e1, ← e2, ← e3, ← e4]
    grind))
  rw [ef, ← sgP_fr po]
  exact ⟨p, _, rfl, Trk.not np, ep, .cons rfl (.cons rfl .nil)⟩
theorem ok_law_is_less (d : Def K mg "_law_is_less" s_law_is_less ["_law_one", "_law_other"]) : Cal P w K mg base CX0 (k + 1) "_law_is_less" ["_law_one", "_law_other"] spLess := by
  refine d.ok sc_law_is_less (fun vs H Q E h => ?_) (fun f cdv A outer s H vs Q E hr h => ?_)
  · obtain ⟨_, _, _, _, _, _, _, rfl, _⟩ := h; rfl
  obtain ⟨Zn, u, v, a, b, c, e, rfl, hu, hv, hb, he, ba, bc, bb, be, q⟩ := h
  refine ⟨_, (pss_one (ps_ret (pe_cmpR op_lt (pe_op op_mulW (pe_ix ix_tup (pv 0) pe_int (fun _ _ => rfl)) (pe_ix ix_tup (pv 1) pe_int (fun _ _ => rfl))) (pe_op op_mulW (pe_ix ix_tup (pv 1) pe_int (fun _ _ => rfl)) (pe_ix ix_tup (pv 0) pe_int (fun _ _ => rfl))) (nomark _)))), ?_⟩
  obtain ⟨l1, o1, g1, f1, g10, o10, e1, e2, m1, m2⟩ := fr_parts (a := a) hb
  obtain ⟨l2, o2, g2, f2, g20, o20, e3, e4, m3, m4⟩ := fr_parts (a := c) he
  rw [f1] at hu
  rw [f2] at hv
  obtain ⟨p1, u1, u2, rfl, ep1, h1, h2⟩ := hu.pair
  cases h1; cases h2
  obtain ⟨p2, u3, u4, rfl, ep2, h3, h4⟩ := hv.pair
  cases h3; cases h4
  have cm1 : CMulW l1 o2 := wide_mul (a := 9000) (b := 4450) (by omega) (by omega) (by decide) (by decide) (by decide)
  have cm2 : CMulW l2 o1 := wide_mul (a := 9000) (b := 4450) (by omega) (by omega) (by decide) (by decide) (by decide)
  refine ⟨_, rfl, p1, _, 0, .int l1, rfl, rfl, .of ep1, rfl, _, rfl, p2, _, 1, .int o2, rfl, rfl, .of ep2, rfl, _, _, rfl, rfl, cm1, ?_⟩
  refine ⟨_, rfl, p2, _, 0, .int l2, rfl, rfl, .of ep2, rfl, _, rfl, p1, _, 1, .int o1, rfl, rfl, .of ep1, rfl, _, _, rfl, rfl, cm2, _, _, rfl, rfl, ?_⟩
  have gg : 0 < g1 * g2 := Int.mul_pos g10 g20
  have : (l1 * o2 < l2 * o1) ↔ (a * e < c * b) := by
    have x1 : a * e = (g1 * g2) * (l1 * o2) := by rw [← e1, ← e4]; grind
    have x2 : c * b = (g1 * g2) * (l2 * o1) := by rw [← e3, ← e2]; grind
    rw [x1, x2]
    exact ⟨fun h => Int.mul_lt_mul_of_pos_left h gg, fun h => Int.lt_of_mul_lt_mul_left h (Int.le_of_lt gg)⟩
  show Q (.bl (decide (l1 * o2 < l2 * o1))) H
  rw [show decide (l1 * o2 < l2 * o1) = decide (a * e < c * b) from decide_eq_decide.mpr this]
  exact q
/-- a list of fractions -/
structure FrAt (Z : Zone) (H : Hp) (L : Addr) (n : Nat) (X : Nat → Int) (N : Int) : Prop where
  ob : ∃ vs : List V, ¬ Z L ∧ H L = some (.lst vs) ∧ AtAll Z H ((List.range n).map fun s => frT (X s) N) vs
theorem FrAt.same {Z : Zone} {H H' : Hp} {L : Addr} {n : Nat} {X : Nat → Int} {N : Int} (h : FrAt Z H L n X N) (s : Same H H') : FrAt Z H' L n X N := by
  obtain ⟨vs, n, e, a⟩ := h.ob
  exact ⟨vs, n, s _ _ e, a.same s⟩
def spEndsL : Sp := fun vs H Q _ => ∃ (Z : Zone) (u : V) (z : Int) (R : List Th), vs = [u] ∧ At Z H (.tup [.int z, .tup R]) u ∧ MOk z R ∧ ∀ L H', Same H H' → FrAt (Trk H) H' L R.length (enV R) (2 ^ 60) → Q (.ref L) H'
def spStepped : Sp := fun vs H Q _ => ∃ (Z Z2 : Zone) (u : V) (z : Int) (R : List Th) (L0 : Addr) (X : Nat → Int) (N : Int), vs = [u, .ref L0] ∧ At Z H (.tup [.int z, .tup R]) u ∧ MOk z R ∧ FrAt Z2 H L0 R.length X N ∧ 0 < N ∧ N.natAbs < 2 ^ 4380 ∧ (∀ s, s < R.length → 0 ≤ X s) ∧ (∀ s, s < R.length → (vS X (stS R s)).natAbs < 2 ^ 4500) ∧
  ∀ L H', Same H H' → FrAt (Trk H) H' L R.length (itV R X 1) (N * 2 ^ 60) → Q (.ref L) H'
theorem fr_zero {N : Int} (hN : 0 < N) : frT 0 N = .tup [.int 0, .int 1] := by
  rw [frT_eq (c := 0) (e := 1) hN (by decide) (by omega)]
  rfl
theorem ok_law_ends (c_law_power : Cal P w K mg base CX0 k "_law_power" ["_law_much"] spPower) (d : Def K mg "_law_ends" s_law_ends ["_law_small"]) : Cal P w K mg base CX0 (k + 1) "_law_ends" ["_law_small"] spEndsL := by
  refine d.ok sc_law_ends (fun vs H Q E h => ?_) (fun f cdv A outer s H vs Q E hr h => ?_)
  · obtain ⟨_, _, _, _, rfl, _⟩ := h; rfl
  obtain ⟨Zn, u, z, R, rfl, hu, ok, q⟩ := h
  refine ⟨_, (pss_one (ps_ret (pe_lc (own := [("_law_end", 1), ("_law_steps", 2)]) (g := (gTup K 2 (gCons (gName 1) (gCons (gName 2) gNil)))) (tt := tYes) rfl sc_law_ends.nd (pi_tup (pe_ix ix_tup (pv 0) pe_int (fun _ _ => rfl))) (blkOk_by (N := ["_law_small", "_law_end", "_law_steps"]) (sc := defScope s_law_ends) (by decide +kernel)) (fun _ _ _ _ _ => (pg_tup (by rfl) (pgs_cons (pg_name (i := 1) sc_law_ends.nd rfl (Or.inl rfl)) (pgs_cons (pg_name (i := 2) sc_law_ends.nd rfl (Or.inl rfl)) pgs_nil)))) (fun _ _ _ _ _ => pts_nil) (fun _ _ _ _ _ => (pe_ifExp (pt_cmpR op_isN (pv 1) pe_non (nomark _)) (pe_tup (pa_cons pe_int (pa_cons pe_int pa_nil))) (pe_tup (pa_cons pe_int (pa_cons (pe_cal c_law_power hr (by rfl) (pa_cons (pv 1) pa_nil)) pa_nil)))))))), ?_⟩
  have n30 := ok.n30
  obtain ⟨p, pr, us, rfl, ep, epr, ar, _⟩ := hu.mach
  have lu := ar.len
  refine ⟨_, rfl, p, _, 1, .ref pr, rfl, rfl, .of ep, rfl, pr, rfl, ⟨_, .of epr⟩, fun D hD => lc_tup (xs := us) (fun j G => Same H G ∧ ∃ vs : List V, G D = some (.lst vs) ∧ AtAll (fun a => a = D ∨ Trk H a) G ((List.range j).map fun s => frT (enV R s) (2 ^ 60)) vs)
    ⟨same_new hD _, [], upd_same, .nil⟩ (fun j G _ p' => .of (p'.1 _ _ epr)) (fun j x G ex p' => ?_) (fun G p' => ?_)⟩
  · obtain ⟨sG, vs, eD, aD⟩ := p'
    have hj : j < R.length := by rw [← lu]; exact (List.getElem?_eq_some_iff.mp ex).1
    have lvs : vs.length = j := by rw [aD.len, List.length_map, List.length_range]
    obtain ⟨pu, ve, ps, ws, e, ss, b1, b2, b3, b4, b5, b6, b7, b8, b9⟩ := row_at (ar.same sG) ok hj
    rw [b1] at ex; cases ex
    have hen : enV R j = shE e := by show shE (endOf ((R[j]?).getD .non)) = _; rw [b4]; rfl
    have fin : ∀ (T : Addr) (x y : Int), G T = none → frT (enV R j) (2 ^ 60) = .tup [.int x, .int y] → ∃ acc, upd G T (.tup [V.int x, V.int y]) D = some (.lst acc) ∧ acc.length < sizeLine ∧ Same H (upd (upd G T (.tup [V.int x, V.int y])) D (.lst (acc ++ [V.ref T]))) ∧ ∃ vs : List V, (upd (upd G T (.tup [V.int x, V.int y])) D (.lst (acc ++ [V.ref T]))) D = some (.lst vs) ∧ AtAll (fun a => a = D ∨ Trk H a) (upd (upd G T (.tup [V.int x, V.int y])) D (.lst (acc ++ [V.ref T]))) ((List.range (j + 1)).map fun s => frT (enV R s) (2 ^ 60)) vs := fun T x y nT ef => by
      have zT := same_new nT (.tup [V.int x, V.int y])
      have nTD : T ≠ D := fun e => by rw [e, eD] at nT; cases nT
      refine ⟨vs, zT _ _ eD, by rw [lvs, sizeLine_eq]; omega, Same.upd_new (sG.trans zT) hD _, vs ++ [V.ref T], upd_same, ?_⟩
      have sz : SB (fun a => a = D ∨ Trk H a) (upd G T (.tup [V.int x, V.int y])) (upd (upd G T (.tup [V.int x, V.int y])) D (.lst (vs ++ [V.ref T]))) := .self (Z := fun a => a = D ∨ Trk H a) (.inl rfl) _
      rw [List.range_succ, List.map_append]
      refine (AtAll.append (aD.same zT) (.cons ?_ .nil)).sb sz
      show At _ _ (frT (enV R j) (2 ^ 60)) _
      rw [ef]
      refine ⟨T, _, rfl, fun h => ?_, upd_same, .cons rfl (.cons rfl .nil)⟩
      rcases h with h | h
      · exact nTD h
      · exact Trk.same sG h nT
    refine ⟨pu, _, rfl, .of b2, rfl, ve, _, rfl, _, _, rfl, rfl, rfl, iteT (B := False) ?_⟩
    rcases b6 with ⟨rfl, rfl⟩ | ⟨i, rfl, rfl⟩
    · refine ⟨_, rfl, rfl, _, rfl, iteT ⟨(by show 2 ≤ sizeLine; decide), fun T nT => fin T 0 1 nT ?_⟩⟩
      rw [hen]
      exact fr_zero (by decide)
    · obtain ⟨en, ss', er', hh1, _⟩ := ok.row hj
      rw [b4] at er'
      injection er' with er'; injection er' with er'; injection er' with er1 _
      have ib : 1 ≤ i ∧ i ≤ 60 := by
        rcases hh1 with h | ⟨i', h, q1, q2⟩
        · rw [h] at er1; cases er1
        · rw [h] at er1; injection er1 with er1; omega
      obtain ⟨i, rfl⟩ : ∃ m' : Nat, i = m' := ⟨i.toNat, by omega⟩
      refine ⟨_, rfl, rfl, _, rfl, iteF ⟨_, rfl, i, rfl, by omega, (by show 2 ≤ sizeLine; decide), fun T nT => fin T 1 (2 ^ i) nT ?_⟩⟩
      rw [hen]
      show frT (2 ^ (60 - (i : Int)).toNat) (2 ^ 60) = _
      have e2 : (2 : Int) ^ 60 = 2 ^ (60 - (i : Int)).toNat * 2 ^ i := by
        rw [← Int.pow_add]
        congr 1
        omega
      rw [frT_eq (c := 1) (e := 2 ^ i) (by decide) (Int.pow_pos (by decide)) (by rw [Int.mul_one, e2, Int.mul_comm])]
      show Th.tup [.int (lowT 1 (2 ^ i)), .int _] = _
      unfold lowT
      rw [show Nat.gcd (1 : Int).natAbs ((2 : Int) ^ i).natAbs = 1 from Nat.gcd_one_left _]
      simp
  · obtain ⟨sG, vs, eD, aD⟩ := p'
    rw [lu] at aD
    exact q D G sG ⟨vs, fun h => h hD, eD, aD.less fun a h => .inr h⟩
theorem vS_take {X : Nat → Int} {ss : List Th} (hn : ∀ m s, Th.tup [.int m, .int s] ∈ ss → 0 ≤ X s.toNat) (j : Nat) : 0 ≤ vS X (ss.take j) ∧ vS X (ss.take j) ≤ vS X ss := by
  have h1 := (vS_ge (X := X) (ss := ss.take j) fun m s k => hn m s (List.mem_of_mem_take k)).1
  have h2 := (vS_ge (X := X) (ss := ss.drop j) fun m s k => hn m s (List.mem_of_mem_drop k)).1
  have h3 : vS X ss = vS X (ss.take j) + vS X (ss.drop j) := by rw [← vS_app, List.take_append_drop]
  omega
theorem ok_law_stepped (c_law_power : Cal P w K mg base CX0 k "_law_power" ["_law_much"] spPower) (c_law_reduced : Cal P w K mg base CX0 k "_law_reduced" ["_law_top", "_law_bottom"] spReduced) (c_law_plus : Cal P w K mg base CX0 k "_law_plus" ["_law_one", "_law_other"] spPlus) (d : Def K mg "_law_stepped" s_law_stepped ["_law_small", "_law_row"]) : Cal P w K mg base CX0 (k + 1) "_law_stepped" ["_law_small", "_law_row"] spStepped := by
  refine d.ok sc_law_stepped (fun vs H Q E h => ?_) (fun f cdv A outer s H vs Q E hr h => ?_)
  · obtain ⟨_, _, _, _, _, _, _, _, rfl, _⟩ := h; rfl
  obtain ⟨Z0, Z2, u, z, R, L0, X, N, rfl, hu, ok, hF, hN, bN, nnX, bX, q⟩ := h
  refine ⟨_, (pss_cons (ps_set (i := 2) sc_law_stepped.nd rfl (Or.inl rfl) (pe_lst pa_nil))
      (pss_cons (ps_for PassesOwn.never rfl (pi_tup (pe_ix ix_tup (pv 0) pe_int (fun _ _ => rfl))) (pg_tup (by rfl) (pgs_cons (pg_name (i := 3) sc_law_stepped.nd rfl (Or.inl rfl)) (pgs_cons (pg_name (i := 4) sc_law_stepped.nd rfl (Or.inl rfl)) pgs_nil))) (pss_cons (ps_set (i := 5) sc_law_stepped.nd rfl (Or.inl rfl) (pe_tup (pa_cons pe_int (pa_cons pe_int pa_nil))))
      (pss_cons (ps_for PassesOwn.never rfl (pi_tup (pv 4)) (pg_name (i := 6) sc_law_stepped.nd rfl (Or.inl rfl)) (pss_one (ps_if (pt_cmpR op_notN (pv 6) pe_non (nomark _)) (pss_cons (ps_asg (pe_ix ix_list (pv 1) (pe_ix ix_tup (pv 6) pe_int (fun _ _ => rfl)) (fun _ _ => rfl)) (pg_tup (by rfl) (pgs_cons (pg_name (i := 7) sc_law_stepped.nd rfl (Or.inl rfl)) (pgs_cons (pg_name (i := 8) sc_law_stepped.nd rfl (Or.inl rfl)) pgs_nil))))
      (pss_one (ps_set (i := 5) sc_law_stepped.nd rfl (Or.inl rfl) (pe_cal c_law_plus hr (by rfl) (pa_cons (pv 5) (pa_cons (pe_cal c_law_reduced hr (by rfl) (pa_cons (pv 7) (pa_cons (pe_op op_mulW (pv 8) (pe_cal c_law_power hr (by rfl) (pa_cons (pe_ix ix_tup (pv 6) pe_int (fun _ _ => rfl)) pa_nil))) pa_nil))) pa_nil)))))) pss_nil)))
      (pss_one (ps_expr (pe_bm PySem.F.plainAttrs_list PySem.F.slot_list_append PySem.F.type_list_append mt_append (pv 2) (pa_cons (pv 5) pa_nil)))))))
      (pss_one (ps_ret (pv 2))))), ?_⟩
  have n30 := ok.n30
  obtain ⟨p, pr, us, rfl, ep, epr, ar, _⟩ := hu.mach
  have lu := ar.len
  obtain ⟨fv, _, eL0, aL0⟩ := hF.ob
  refine ⟨(by show 0 ≤ sizeLine; decide), fun F nF => ?_⟩
  have zF := same_new nF (.lst [])
  have eF0 : upd H F (.lst []) F = some (.lst []) := upd_same
  generalize upd H F (.lst []) = H0 at *
  have N60 : 0 < N * 2 ^ 60 := Int.mul_pos hN (by decide)
  have b60 : (N * 2 ^ 60).natAbs < 2 ^ 4450 := by
    rw [Int.natAbs_mul, show (4450 : Nat) = 4380 + 70 from rfl, Nat.pow_add]
    exact Nat.mul_lt_mul_of_lt_of_lt bN (by decide)
  refine ⟨_, rfl, p, _, 1, .ref pr, rfl, rfl, .of (zF _ _ ep), rfl, pr, rfl, ⟨_, .of (zF _ _ epr)⟩, ?_⟩
  refine for_tup (xs := us) (fun i σ' G => Same H G ∧ ∃ (gv : List V) (y3 y4 y5 y6 y7 y8 : Option V), σ' = [some (.ref p), some (.ref L0), some (.ref F), y3, y4, y5, y6, y7, y8] ∧ G F = some (.lst gv) ∧ AtAll (fun a => a = F ∨ Trk H a) G ((List.range i).map fun s => frT (itV R X 1 s) (N * 2 ^ 60)) gv)
    ⟨zF, [], none, none, none, none, none, none, rfl, eF0, .nil⟩ (fun i σ' G _ hh => .of (hh.1 _ _ epr)) (fun i x σ' G ex hh => ?_) (fun σ' G hh => ?_)
  · obtain ⟨sG, gv, y3, y4, y5, y6, y7, y8, rfl, eF, aF⟩ := hh
    have hi : i < R.length := by rw [← lu]; exact (List.getElem?_eq_some_iff.mp ex).1
    have lgv : gv.length = i := by rw [aF.len, List.length_map, List.length_range]
    obtain ⟨pu, ve, ps, vs, e, ss, b1, b2, b3, b4, b5, b6, b7, b8, b9⟩ := row_at (ar.same sG) ok hi
    rw [b1] at ex; cases ex
    have hss : stS R i = ss := by show stepsOf ((R[i]?).getD .non) = ss; rw [b4]; rfl
    have hnn : ∀ m s, Th.tup [.int m, .int s] ∈ ss → 0 ≤ X s.toNat := fun m t k => nnX _ (step_lt ok (s := i) (by rw [hss]; exact k)).1
    have bS := bX i hi
    rw [hss] at bS
    refine ⟨pu, _, rfl, .of b2, rfl, ve, _, rfl, _, _, rfl, rfl, ?_⟩
    refine ⟨(by show 2 ≤ sizeLine; decide), fun T nT => ?_⟩
    have zT := same_new nT (.tup [V.int 0, V.int 1])
    have eT : upd G T (.tup [V.int 0, V.int 1]) T = some (.tup [V.int 0, V.int 1]) := upd_same
    have nTF : T ≠ F := fun e => by rw [e, eF] at nT; cases nT
    have nTH : ¬ Trk H T := fun h => Trk.same sG h nT
    generalize upd G T (.tup [V.int 0, V.int 1]) = G1 at *
    have sG1 := sG.trans zT
    have aT : At (fun a => a = F ∨ Trk H a) G1 (frT 0 (N * 2 ^ 60)) (.ref T) := by
      rw [fr_zero N60]
      exact ⟨T, _, rfl, fun h => h.elim nTF nTH, eT, .cons rfl (.cons rfl .nil)⟩
    refine ⟨_, rfl, ps, rfl, ⟨_, .of (zT _ _ b3)⟩, ?_⟩
    refine for_tup (xs := vs) (fun j σ' G2 => Same G1 G2 ∧ ∃ (v5 : V) (y6 y7 y8 : Option V), σ' = [some (.ref p), some (.ref L0), some (.ref F), some ve, some (.ref ps), some v5, y6, y7, y8] ∧ At (fun a => a = F ∨ Trk H a) G2 (frT (vS X (ss.take j)) (N * 2 ^ 60)) v5)
      ⟨Same.refl _, .ref T, _, _, _, rfl, aT⟩ (fun j σ' G2 _ hh => .of (hh.1 _ _ (zT _ _ b3))) (fun j x2 σ' G2 ex2 hh => ?_) (fun σ' G2 hh => ?_)
    · obtain ⟨s2, v5, y6, y7, y8, rfl, a5⟩ := hh
      have s12 := zT.trans s2
      have sHG := sG.trans s12
      have hF2 := eF
      rcases st_get (b8.same s12) b9 ex2 with ⟨f1, rfl⟩ | ⟨q2, m, t, f1, rfl, f2, _, m0, m1, t0, t1⟩
      · refine ⟨_, rfl, rfl, _, rfl, iteF ⟨s2, v5, _, _, _, rfl, ?_⟩⟩
        rw [List.take_add_one, f1, vS_app, show vS X (some Th.non).toList = 0 from rfl, Int.add_zero]
        exact a5
      obtain ⟨m, rfl⟩ : ∃ m' : Nat, m = m' := ⟨m.toNat, by omega⟩
      obtain ⟨t, rfl⟩ : ∃ m' : Nat, t = m' := ⟨t.toNat, by omega⟩
      have ht : t < R.length := by omega
      obtain ⟨v0, ev0, h0⟩ := aL0.at (show ((List.range R.length).map fun s => frT (X s) N)[t]? = some (frT (X t) N) by rw [List.getElem?_map, List.getElem?_range ht]; rfl)
      have h0 := h0.same sHG
      obtain ⟨lo, bo, g, fr, g0, bo0, e1, e2, m1', m2'⟩ := fr_parts (a := X t) hN
      rw [fr] at h0
      obtain ⟨pf, uf1, uf2, rfl, epf, hf1, hf2⟩ := h0.pair
      cases hf1; cases hf2
      have bbo : bo.natAbs < 2 ^ 4380 := by omega
      have bp : ((2 : Int) ^ m).natAbs < 2 ^ 61 := by
        rw [Int.natAbs_pow]
        exact Nat.pow_lt_pow_right (by decide) (by omega)
      have p0 : 0 < bo * 2 ^ m := Int.mul_pos bo0 (Int.pow_pos (by decide))
      have bbm : (bo * 2 ^ m).natAbs < 2 ^ 8900 := by
        rw [Int.natAbs_mul]
        refine Nat.lt_of_lt_of_le (Nat.mul_lt_mul_of_lt_of_lt bbo bp) ?_
        rw [← Nat.pow_add]
        exact Nat.pow_le_pow_right (by decide) (by decide)
      refine ⟨_, rfl, rfl, _, rfl, iteT ?_⟩
      refine ⟨_, rfl, _, rfl, q2, _, 1, nV t, rfl, rfl, .of f2, rfl, L0, _, _, .ref pf, rfl, rfl, .of (sHG _ _ eL0), atI_nat ev0, pf, _, rfl, .of epf, rfl, _, _, rfl, _, _, rfl, rfl, ?_⟩
      refine ⟨_, rfl, _, rfl, _, rfl, _, rfl, q2, _, 0, nV m, rfl, rfl, .of f2, rfl, m, rfl, by omega, _, _, rfl, rfl, wide_mul bbo bp (by decide) (by decide) (by decide), lo, _, rfl, by omega, bbm, fun p2 G3 s3 np2 ep2 => ?_⟩
      have npF : p2 ≠ F := fun e => by
        have := s12 _ _ eF
        rw [← e, np2] at this
        cases this
      have npH : ¬ Trk H p2 := fun h => Trk.same sHG h np2
      have efr : frT lo (bo * 2 ^ m) = frT (2 ^ (60 - (m : Int)).toNat * X t) (N * 2 ^ 60) := frT_eq p0 N60 (by
        have e60 : (2 : Int) ^ 60 = 2 ^ (60 - (m : Int)).toNat * 2 ^ m := by
          rw [← Int.pow_add]
          congr 1
          omega
        rw [e60, ← e1, ← e2]
        grind)
      have aP : At (fun a => a = F ∨ Trk H a) G3 (frT (2 ^ (60 - (m : Int)).toNat * X t) (N * 2 ^ 60)) (.ref p2) := by
        rw [← efr, ← sgP_fr p0]
        exact ⟨p2, _, rfl, fun h => h.elim npF npH, ep2, .cons rfl (.cons rfl .nil)⟩
      have hv := vS_take hnn j
      have hge := (vS_ge hnn).2 _ _ (List.mem_of_getElem? f1)
      rw [Int.toNat_natCast] at hge
      have hxt : (0 : Int) ≤ 2 ^ (60 - (m : Int)).toNat * X t := Int.mul_nonneg (Int.pow_nonneg (by decide)) (nnX t ht)
      have b4500 : (2 : Nat) ^ 4500 ≤ 2 ^ 9000 := Nat.pow_le_pow_right (by decide) (by decide)
      refine ⟨_, _, _, vS X (ss.take j), N * 2 ^ 60, 2 ^ (60 - (m : Int)).toNat * X t, N * 2 ^ 60, rfl, a5.same s3, aP, N60, N60, by omega, by omega, b60, b60, fun y G4 s4 a4 => ?_⟩
      refine ⟨s2.trans (s3.trans s4), y, _, _, _, rfl, ?_⟩
      have e3 : frT (vS X (ss.take j) * (N * 2 ^ 60) + 2 ^ (60 - (m : Int)).toNat * X t * (N * 2 ^ 60)) (N * 2 ^ 60 * (N * 2 ^ 60)) = frT (vS X (ss.take (j + 1))) (N * 2 ^ 60) := by
        rw [List.take_add_one, f1, vS_app, show vS X (some (Th.tup [.int (m : Nat), .int (t : Nat)])).toList = 2 ^ (60 - (m : Int)).toNat * X t by
          show 2 ^ (60 - ((m : Nat) : Int)).toNat * X ((t : Nat) : Int).toNat + 0 = _
          rw [Int.toNat_natCast, Int.add_zero]]
        exact frT_eq (Int.mul_pos N60 N60) N60 (by grind)
      rw [← e3]
      exact a4.less fun a h => by
        rcases h with rfl | h
        · exact .of (s3 _ _ (s12 _ _ eF))
        · exact Trk.same (sHG.trans s3) h
    · obtain ⟨s2, v5, y6, y7, y8, rfl, a5⟩ := hh
      rw [b8.len, List.take_length] at a5
      have s12 := zT.trans s2
      have eF2 := s12 _ _ eF
      refine ⟨_, rfl, .inl ⟨rfl, _, .inl (.inl eF2)⟩, _, rfl, F, _, _, rfl, rfl, eF2, by rw [lgv, sizeLine_eq]; omega, Same.upd_new (sG.trans s12) nF _, gv ++ [v5], _, _, _, _, _, _, rfl, upd_same, ?_⟩
      have sz : SB (fun a => a = F ∨ Trk H a) G2 (upd G2 F (.lst (gv ++ [v5]))) := .self (Z := fun a => a = F ∨ Trk H a) (.inl rfl) _
      rw [List.range_succ, List.map_append]
      refine (AtAll.append (aF.same s12) (.cons ?_ .nil)).sb sz
      show At _ _ (frT (vS X (stS R i)) (N * 2 ^ 60)) _
      rw [hss]
      exact a5
  · obtain ⟨sG, gv, y3, y4, y5, y6, y7, y8, rfl, eF, aF⟩ := hh
    rw [lu] at aF
    exact ⟨_, rfl, q F _ sG ⟨gv, fun h => h nF, eF, aF.less fun a h => .inr h⟩⟩
end
end KL
end
section
set_option maxHeartbeats 1000000
namespace KL
open PySem PySem.Spec PyProof.Rows L2
/-! ### zip of a list and a tuple -/
def ItzM (K : PySem.W.Frag) (a b : Addr) : It :=
  ⟨fun i H => ∃ (xs ys : List V) (x y : V), SqL K H a xs ∧ SqT K H b ys ∧ xs[i]? = some x ∧ ys[i]? = some y,
    fun i H v H' => ∃ T x y, v = .ref T ∧ H T = none ∧ H' = upd H T (.tup [x, y]) ∧ (∀ xs, SqL K H a xs → xs[i]? = some x) ∧ ∀ ys, SqT K H b ys → ys[i]? = some y,
    fun i H => ∃ xs ys : List V, SqL K H a xs ∧ SqT K H b ys ∧ i = min xs.length ys.length⟩
theorem turn_zipM {P : Program} {w : World} {K : PySem.W.Frag} {elts : List Expr} {kk : Nat} {tpos : Pos} {a b z TI TO i1 i2 : Addr} (S : ZipSep2 z TI TO i1 i2 [i1, a] [i2, b]) (n1 : a ≠ i1) (n2 : b ≠ i2) :
    Turn P w K (.Tuple elts kk tpos) (ItzM K a b) [z, TI, TO, i1, i2] z (fun i h => IsZip h z TI TO .none ∧ IsTupOf2 h TI (.ref i1) (.ref i2) ∧ (∃ x y, IsTupOf2 h TO x y) ∧ h.IsListIter i1 a i ∧ h.IsTupleIter i2 b i) where
  mem := by simp
  obj := fun i h st c hc => by
    obtain ⟨hz, hTI, ⟨x, y, hTO⟩, ⟨o1, e1, _, d1⟩, ⟨o2, e2, _, d2⟩⟩ := st
    have e' : c = z ∨ c = TI ∨ c = TO ∨ c = i1 ∨ c = i2 := by simpa using hc
    rcases e' with q | q | q | q | q
    · rw [q]; exact ⟨_, hz, fun v q => nomatch q⟩
    · rw [q]; exact ⟨_, hTI, fun v q => nomatch q⟩
    · rw [q]; exact ⟨_, hTO, fun v q => nomatch q⟩
    · rw [q]; exact ⟨o1, e1, fun v q => by rw [d1] at q; cases q⟩
    · rw [q]; exact ⟨o2, e2, fun v q => by rw [d2] at q; cases q⟩
  keep := fun i h h' st k => by
    obtain ⟨hz, hTI, ⟨x, y, hTO⟩, h1, h2⟩ := st
    exact ⟨k z (by simp) _ hz, k TI (by simp) _ hTI, ⟨x, y, k TO (by simp) _ hTO⟩, h1.at fun o q => k i1 (by simp) o q, h2.at fun o q => k i2 (by simp) o q⟩
  item := by
    intro X hP hw hK hc i pins s σ H E I hf st hg
    subst hP hw hK
    obtain ⟨hz, hTI, ⟨x0, y0, hTO⟩, h1, h2⟩ := st
    obtain ⟨xs, ys, x, y, hqx, hqy, hx, hy⟩ := hg
    obtain ⟨its, rv, p, _⟩ := I.list hqx
    obtain ⟨its2, rv2, p2, _⟩ := I.tuple hqy
    obtain ⟨u, hu, ru⟩ := rv.get hx
    obtain ⟨u2, hu2, ru2⟩ := rv2.get hy
    have hh : X.A.in1.handled = none := I.ok.hd hc
    have W := WalksT.zipD2 (prog := X.prog) (w := X.w) (A := X.A) S (Draws.list hh i1 a n1 its.toArray) (Draws.tuple hh i2 b n2 its2.toArray)
    have li : i < min its.toArray.size its2.toArray.size := by
      have := (List.getElem?_eq_some_iff.mp hu).1
      have := (List.getElem?_eq_some_iff.mp hu2).1
      simp
      omega
    refine W.item i s _ E li ⟨hz, hTI, ⟨x0, y0, hTO⟩, ⟨h1, p.isList⟩, ⟨h2, p2⟩⟩ fun T vals h' tk hP hT hTup hMid hk => ?_
    have hap := W.apart i T h' hMid
    obtain ⟨x1, x2, hx1, hx2, rfl⟩ := hP
    have ex1 : x1 = u := by
      have : its.toArray[i]? = some u := by simpa using hu
      rw [this] at hx1
      exact (Option.some.inj hx1).symm
    have ex2 : x2 = u2 := by
      have : its2.toArray[i]? = some u2 := by simpa using hu2
      rw [this] at hx2
      exact (Option.some.inj hx2).symm
    subst ex1 ex2
    refine ⟨_, rfl, W.go elts kk tpos i T { s with heap := h', toks := tk } _ E hMid fun h'' st'' hk2 => ?_⟩
    obtain ⟨gz, gTI, gTO, g1, g2⟩ := st''
    obtain ⟨oT, eT, cT, nT, dT⟩ := hTup
    have eT2 : h''.get? T = some oT := hk2 T oT hap eT
    have new : ObjOk X.prog X.w (upd H T (.tup [x, y])) h'' T (.tup [x, y]) := ⟨by show 2 ≤ sizeLine; decide, [x1, x2], .cons ru (.cons ru2 .nil), ⟨oT, eT2, cT, nT, dT⟩⟩
    have I1 : Inv X pins σ (upd H T (.tup [x, y])) { s with heap := h'', toks := tk } :=
      I.turnedNew (t' := tk) (ch := [z, TI, TO, i1, i2]) (fun c o hb q => hk2 c o (fun m => hb (by simp at m ⊢; rcases m with m | m | m | m <;> simp [m])) (hk c o (fun m => hb (by simp at m ⊢; rcases m with m | m | m | m <;> simp [m])) q)) hf hT new
    refine ⟨.ref T, _, I1, rfl, ⟨T, x, y, rfl, I.hok.fresh hT, rfl, fun l hl => by rw [I.list_inj hl hqx]; exact hx, fun l hl => by rw [I.tuple_inj hl hqy]; exact hy⟩, ⟨gz, gTI, gTO, g1.1, g2.1⟩, fun c hcm => ?_⟩
    have hlt : c < s.heap.objs.size := by
      have e' : c = z ∨ c = TI ∨ c = TO ∨ c = i1 ∨ c = i2 := by simpa using hcm
      rcases e' with q | q | q | q | q
      · rw [q]; exact Heap.lt_size hz
      · rw [q]; exact Heap.lt_size hTI
      · rw [q]; exact Heap.lt_size hTO
      · rw [q]; obtain ⟨_, e1, _⟩ := h1; exact Heap.lt_size e1
      · rw [q]; obtain ⟨_, e2, _⟩ := h2; exact Heap.lt_size e2
    rw [upd_ne (Nat.ne_of_lt (Nat.lt_of_lt_of_le hlt hT))]
    exact (hf c hcm).1
  done := by
    intro X hP hw hK hc i pins s σ H E I hf st hg
    subst hP hw hK
    obtain ⟨hz, hTI, ⟨x0, y0, hTO⟩, h1, h2⟩ := st
    obtain ⟨xs, ys, hqx, hqy, hend⟩ := hg
    obtain ⟨its, rv, p, _⟩ := I.list hqx
    obtain ⟨its2, rv2, p2, _⟩ := I.tuple hqy
    have hh : X.A.in1.handled = none := I.ok.hd hc
    have W := WalksT.zipD2 (prog := X.prog) (w := X.w) (A := X.A) S (Draws.list hh i1 a n1 its.toArray) (Draws.tuple hh i2 b n2 its2.toArray)
    have ei : i = min its.toArray.size its2.toArray.size := by
      rw [hend, rv.length, rv2.length]
      simp
    refine W.done s _ E ⟨hz, hTI, ⟨x0, y0, hTO⟩, ⟨ei ▸ h1, p.isList⟩, ⟨ei ▸ h2, p2⟩⟩ fun h' tk hk => ⟨rfl, I.turnedL (t' := tk) (ch := [z, TI, TO, i1, i2]) (fun c o hb q => hk c o (fun m => hb (by simp at m ⊢; rcases m with m | m | m | m <;> simp [m])) q) hf⟩
  self := fun A i s Q E st h => wpAny_pyIter_zip st.1 h
def iZipM (K : PySem.W.Frag) (ta : TA) : TI := fun σ H R => ta σ H fun vs H1 => ∃ a b xs ys, vs = [.ref a, .ref b] ∧ SqL K H1 a xs ∧ SqT K H1 b ys ∧ R (ItzM K a b) H1
theorem pi_zipM {X : Cx} {e e2 : Expr} {ta : TA} {p pos tpos : Pos} {elts : List Expr} {kk : Nat} (hg : Gl X "zip") (hm : X.mg "zip" = none) (ha : PA X [e, e2] ta)
    (hs : starEach [e, e2] X.env = (false, eval e X.env) :: starEach [e2] X.env := by rfl) (hpl : (backTo pos (starEach [e2] X.env)).any (·.1) = false := by rfl) :
    PI X (.Tuple elts kk tpos) (.Call (.Name "zip" p) [e, e2] [] pos) (iZipM X.K ta) := by
  refine ⟨fun pins s σ H R I h => ?_⟩
  refine Call_ (ld_blt I hg hm PyProof.Rows.boot_zip (PyProof.Rows.callWith_type1 (thn (ha.run pos pins s σ H _ I h) fun us s1 ⟨vs, H1, I1, r1, q1⟩ => ?_) hs hpl))
  obtain ⟨a, b, xs, ys, ex, hqx, hqy, q⟩ := q1
  subst ex
  cases r1 with
  | cons r rr =>
    cases rr with
    | cons r' rr =>
      cases rr
      cases r
      cases r'
      obtain ⟨its, rv, p1, _⟩ := I1.list hqx
      obtain ⟨its2, rv2, p2, _⟩ := I1.tuple hqy
      obtain ⟨o2, ho2, _⟩ := id p2
      have la : a < s1.heap.objs.size := p1.lt
      have lb : b < s1.heap.objs.size := Heap.lt_size ho2
      refine zip_begins2 (begins_list a its.toArray) (begins_tuple b its2.toArray) p1.isList p2 fun h' hz hTI hTO g1 g2 hsz hk => wpAny_pyIter_zip hz ?_
      have I2 : Inv X pins σ H1 { s1 with heap := h' } := I1.kept (t' := s1.toks) hk
      refine ⟨s1.heap.objs.size + 4, [s1.heap.objs.size + 4, s1.heap.objs.size + 2, s1.heap.objs.size + 3, s1.heap.objs.size, s1.heap.objs.size + 1], _, _, H1, rfl, I2, turn_zipM (zip_sep2 (fp1 := [a]) (fp2 := [b]) (fun c m => by rw [List.mem_singleton.mp m]; exact la) (fun c m => by rw [List.mem_singleton.mp m]; exact lb)) (Nat.ne_of_lt la) (Nat.ne_of_lt (Nat.lt_succ_of_lt lb)), ⟨hz, hTI, ⟨_, _, hTO⟩, ⟨_, g1, rfl, rfl⟩, ⟨_, g2, rfl, rfl⟩⟩, fun c hcm => ?_, q⟩
      have e' : c = s1.heap.objs.size + 4 ∨ c = s1.heap.objs.size + 2 ∨ c = s1.heap.objs.size + 3 ∨ c = s1.heap.objs.size ∨ c = s1.heap.objs.size + 1 := by simpa using hcm
      have hle : s1.heap.objs.size ≤ c := by
        rcases e' with z | z | z | z | z
        · rw [z]; exact Nat.le_add_right _ _
        · rw [z]; exact Nat.le_add_right _ _
        · rw [z]; exact Nat.le_add_right _ _
        · rw [z]; exact Nat.le_refl _
        · rw [z]; exact Nat.le_add_right _ _
      exact I1.fpOk hle (I1.hok.fresh hle)
theorem walk_zipM {K : PySem.W.Frag} {a b : Addr} {xs ys : List V} {n : Nat} (hn : n = min xs.length ys.length) : Walk (ItzM K a b) n (fun H => SqL K H a xs ∧ SqT K H b ys) (YPair (fun i => xs[i]?) (fun i => ys[i]?)) := by
  subst hn
  refine ⟨fun i _ hi q => ?_, fun _ q => ⟨xs, ys, q.1, q.2, rfl⟩, fun i H v H' _ q y => ?_⟩
  · have h1 : i < xs.length := by omega
    have h2 : i < ys.length := by omega
    exact ⟨xs, ys, xs[i], ys[i], q.1, q.2, by simp [h1], by simp [h2]⟩
  · obtain ⟨T, x, y, h1, h2, h3, h4, h5⟩ := y
    exact ⟨T, x, y, h1, h2, h3, h4 xs q.1, h5 ys q.2⟩
end KL
end
section
set_option maxHeartbeats 1000000
namespace KL
open PySem PySem.Spec PyProof.Rows L2
abbrev sc_law_closed_inN : List Str := ["_law_small", "_law_told", "_law_part", "_law_last", "_law_rest", "_law_turn", "_law_whole", "_law_one", "_law_other", "_law_two"]
abbrev s_law_closed_in : Stmt := topS 65
theorem sc_law_closed_in : FnScope ["_law_small", "_law_told", "_law_part", "_law_last", "_law_rest", "_law_turn", "_law_whole", "_law_one", "_law_other", "_law_two"] ["_law_small", "_law_told"] (defScope s_law_closed_in) := ⟨rfl, rfl, rfl, by decide +kernel, rfl, by decide +kernel, by decide +kernel⟩
theorem frs_get {Z : Zone} {H : Hp} {n : Nat} {X : Nat → Int} {N : Int} {vs : List V} {j : Nat} {v : V} (h : AtAll Z H ((List.range n).map fun s => frT (X s) N) vs) (e : vs[j]? = some v) : At Z H (frT (X j) N) v := by
  obtain ⟨d, ed, hd⟩ := h.get e
  rw [List.getElem?_map] at ed
  by_cases hj : j < n
  · rw [List.getElem?_range hj] at ed
    cases ed
    exact hd
  · rw [List.getElem?_eq_none (by rw [List.length_range]; omega)] at ed
    cases ed
theorem lc_plus {K : PySem.W.Frag} {La Lb : Addr} {n : Nat} {Za Zb : Zone} {X Y : Nat → Int} {M N : Int} {H : Hp} {s0 s1 s2 s3 s4 s5 s6 s7 s8 s9 : Option V} {Q : Addr → Hp → Prop} (hA : FrAt Za H La n X M) (hB : FrAt Zb H Lb n Y N) (hM : 0 < M) (hN : 0 < N) (bM : M.natAbs < 2 ^ 4450) (bN : N.natAbs < 2 ^ 4450)
    (bX : ∀ s, s < n → (X s).natAbs < 2 ^ 9000) (bY : ∀ s, s < n → (Y s).natAbs < 2 ^ 9000) (hn : n ≤ 1000) (q : ∀ D H', Same H H' → FrAt (Trk H) H' D n (fun s => X s * N + Y s * M) (M * N) → Q D H') :
    ∀ D, H D = none → LcG (Itz K La Lb) (gTup K 2 (gCons (gName 7) (gCons (gName 8) gNil))) tYes (tCall spPlus [] E0 (tCons (tVar 7) (tCons (tVar 8) tNil))) [7, 8] [s0, s1, s2, s3, s4, s5, s6, s7, s8, s9] H D (Q D) := by
  intro D hD
  obtain ⟨va, _, ea, aa⟩ := hA.ob
  obtain ⟨vb, _, eb, ab⟩ := hB.ob
  have la : va.length = n := by rw [aa.len, List.length_map, List.length_range]
  have lb : vb.length = n := by rw [ab.len, List.length_map, List.length_range]
  refine lc_it (walk_zip (xs := va) (ys := vb) (n := n) (by omega)) (fun j G => Same H G ∧ ∃ vs : List V, G D = some (.lst vs) ∧ AtAll (fun a => a = D ∨ Trk H a) G ((List.range j).map fun s => frT (X s * N + Y s * M) (M * N)) vs)
    ⟨same_new hD _, [], upd_same, .nil⟩ (fun j G _ p => ⟨.of (p.1 _ _ ea), .of (p.1 _ _ eb)⟩) (fun j x G G' hj p y => ?_) (fun G p => ?_)
  · obtain ⟨sG, vs, eD, aD⟩ := p
    obtain ⟨T, x1, x2, rfl, nT, rfl, g1, g2⟩ := y
    have lvs : vs.length = j := by rw [aD.len, List.length_map, List.length_range]
    have zT := same_new nT (.tup [x1, x2])
    have sT := sG.trans zT
    refine ⟨T, _, rfl, .of upd_same, rfl, _, _, rfl, _, _, rfl, rfl, rfl, iteT (B := False) ?_⟩
    refine ⟨_, rfl, _, rfl, fun _ => False, x1, x2, X j, M, Y j, N, rfl, ((frs_get aa g1).same sT).any, ((frs_get ab g2).same sT).any, hM, hN, bX j hj, bY j hj, bM, bN, fun y H' s' a' => ?_⟩
    have eD' := s' _ _ (zT _ _ eD)
    have aD' := (aD.same zT).same s'
    have sH' := sT.trans s'
    refine ⟨vs, eD', by rw [lvs, sizeLine_eq]; omega, Same.upd_new sH' hD _, vs ++ [y], upd_same, ?_⟩
    have sz : SB (fun a => a = D ∨ Trk H a) H' (upd H' D (.lst (vs ++ [y]))) := .self (Z := fun a => a = D ∨ Trk H a) (.inl rfl) _
    rw [List.range_succ, List.map_append]
    refine (AtAll.append aD' (.cons (a'.less fun a h => ?_) .nil)).sb sz
    rcases h with rfl | h
    · exact .of (zT _ _ eD)
    · exact Trk.same sT h
  · obtain ⟨sG, vs, eD, aD⟩ := p
    exact q D G sG ⟨vs, fun h => h hD, eD, aD.less fun a h => .inr h⟩
theorem FrAt.to {Z : Zone} {H : Hp} {L : Addr} {n : Nat} {X Y : Nat → Int} {N M : Int} (h : FrAt Z H L n X N) (e : ∀ s, s < n → frT (X s) N = frT (Y s) M) : FrAt Z H L n Y M := by
  obtain ⟨vs, n1, e1, a⟩ := h.ob
  refine ⟨vs, n1, e1, ?_⟩
  rw [← List.map_congr_left (f := fun s => frT (X s) N) fun s m => e s (List.mem_range.mp m)]
  exact a
theorem lay_fr (a b : Int) : (py (frT a b)).canLay0 = true := by
  rw [py, pyL, pyL, pyL, py, py]
  simp [PyData.canLay0, PyData.canLayAll0]
theorem lay_frs (X : Nat → Int) (N : Int) (n : Nat) : (py (.lst ((List.range n).map fun s => frT (X s) N))).canLay0 = true := lay_lst fun x m => by
  obtain ⟨s, _, rfl⟩ := List.mem_map.mp m
  exact lay_fr _ _
theorem dp_frs (X : Nat → Int) (N : Int) (n : Nat) : dp (.lst ((List.range n).map fun s => frT (X s) N)) ≤ 64 := by
  have : ∀ xs : List Nat, dpL (xs.map fun s => frT (X s) N) ≤ 1 := fun xs => by
    induction xs with
    | nil => exact Nat.zero_le _
    | cons x r ih =>
      show max (dp (frT (X x) N)) (dpL (r.map fun s => frT (X s) N)) ≤ 1
      have : dp (frT (X x) N) = 1 := rfl
      omega
  have := this (List.range n)
  show dpL _ + 1 ≤ 64
  omega
theorem natAbs_lt {a : Int} {k : Nat} (h0 : 0 ≤ a) (h : a < 2 ^ k) : a.natAbs < 2 ^ k := by
  have : ((a.natAbs : Nat) : Int) < ((2 ^ k : Nat) : Int) := by
    rw [Int.natCast_pow]
    have : ((a.natAbs : Nat) : Int) = a := by omega
    rw [this]
    exact h
  omega
def spClosed : Sp := fun vs H Q _ => ∃ (Z : Zone) (u v : V) (z : Int) (R : List Th), vs = [u, v] ∧ At Z H (.tup [.int z, .tup R]) u ∧ MOk z R ∧ PosR R ∧ At Z H (wosT R) v ∧ ∀ H', Same H H' → Q (.bl true) H'
theorem Yk_small {z : Int} {rows : List Th} (ok : MOk z rows) (i : Nat) : (Yk (eqr rows) rows.length i rows.length).natAbs < 2 ^ 4000 :=
  Nat.lt_of_le_of_lt (Dt_abs (N := 31) (M := 31 * 2 ^ 64) (eqr_abs ok) (Nat.le_refl _) _ (by have := ok.n30; omega)) (pow_small (by have := ok.n30; omega))
theorem pow2_pos (k : Nat) : (0 : Int) < 2 ^ k := Int.pow_pos (by decide)
theorem mul_pow_lt {a : Int} {j k m : Nat} (h0 : 0 ≤ a) (h : a.natAbs < 2 ^ k) (hm : j + k ≤ m) : (2 ^ j * a).natAbs < 2 ^ m := by
  rw [Int.natAbs_mul, Int.natAbs_pow]
  refine Nat.lt_of_lt_of_le (Nat.mul_lt_mul_of_pos_left h (Nat.pow_pos (by decide))) ?_
  show 2 ^ j * 2 ^ k ≤ 2 ^ m
  rw [← Nat.pow_add]
  exact Nat.pow_le_pow_right (by decide) hm
section
variable {P : Program} {w : World} {K : PySem.W.Frag} {mg : Str → Option Value} {base : Heap} {k : Nat} {t1 t2 t3 : Tok}
theorem ok_law_closed_in (G : Gs mg) (Z : Zs mg) (c_law_ends : Cal P w K mg base CX0 k "_law_ends" ["_law_small"] spEndsL) (c_law_stepped : Cal P w K mg base CX0 k "_law_stepped" ["_law_small", "_law_row"] spStepped) (c_law_plus : Cal P w K mg base CX0 k "_law_plus" ["_law_one", "_law_other"] spPlus) (c_law_is_less : Cal P w K mg base CX0 k "_law_is_less" ["_law_one", "_law_other"] spLess)
    (d : Def K mg "_law_closed_in" s_law_closed_in ["_law_small", "_law_told"]) : Cal P w K mg base CX0 (k + 1) "_law_closed_in" ["_law_small", "_law_told"] spClosed := by
  refine d.ok sc_law_closed_in (fun vs H Q E h => ?_) (fun f cdv A outer s H vs Q E hr h => ?_)
  · obtain ⟨_, _, _, _, _, rfl, _⟩ := h; rfl
  obtain ⟨Zn, u, v, z, R, rfl, hu, ok, hp, hv, q⟩ := h
  refine ⟨_, (pss_cons (ps_par (i := 2) (j := 3) rfl sc_law_closed_in.nd rfl rfl (by decide) rfl rfl (pa_cons (pe_cal c_law_ends hr (by rfl) (pa_cons (pv 0) pa_nil)) (pa_cons (pe_cal c_law_ends hr (by rfl) (pa_cons (pv 0) pa_nil)) pa_nil)) (by rfl))
      (pss_cons (ps_set (i := 4) sc_law_closed_in.nd rfl (Or.inl rfl) (pe_callTy (T := "list") call_list_of (by rfl) Z.list (by decide +kernel) (pa_cons (pv 1) pa_nil)))
      (pss_cons (ps_for PassesOwn.never rfl (pi_range1 (by rfl) Z.range (pa_cons pe_int pa_nil)) (pg_name (i := 5) sc_law_closed_in.nd rfl (Or.inl rfl)) (pss_cons (ps_set (i := 4) sc_law_closed_in.nd rfl (Or.inl rfl) (pe_cal c_law_stepped hr (by rfl) (pa_cons (pv 0) (pa_cons (pv 4) pa_nil))))
      (pss_cons (ps_setLc (i := 6) (own := [("_law_one", 7), ("_law_other", 8)]) (g := (gTup K 2 (gCons (gName 7) (gCons (gName 8) gNil)))) (tt := tYes) rfl sc_law_closed_in.nd rfl rfl (sw_true rfl rfl rfl (by decide +kernel)) (pi_zip (by rfl) G.zip (pa_cons (pv 2) (pa_cons (pv 4) pa_nil))) (blkOk_by (N := ["_law_small", "_law_told", "_law_part", "_law_last", "_law_rest", "_law_turn", "_law_whole", "_law_one", "_law_other", "_law_two"]) (sc := defScope s_law_closed_in) (by decide +kernel)) (fun _ _ _ _ _ => (pg_tup (by rfl) (pgs_cons (pg_name (i := 7) sc_law_closed_in.nd rfl (Or.inl rfl)) (pgs_cons (pg_name (i := 8) sc_law_closed_in.nd rfl (Or.inl rfl)) pgs_nil)))) (fun _ _ _ _ _ => pts_nil) (fun _ _ _ _ _ => (pe_cal c_law_plus hr (by rfl) (pa_cons (pv 7) (pa_cons (pv 8) pa_nil)))))
      (pss_cons (ps_if (PW.pt (pw_or (pt_cmpR (op_neD hr.units) (pv 6) (pe_callTy (T := "list") call_list_of (by rfl) Z.list (by decide +kernel) (pa_cons (pv 1) pa_nil)) (nomark _)) (pw_or1 (pt_val (pe_callB (id := "any") (cr_any rfl) (by rfl) Z.any (by decide +kernel) (pa_cons (pe_lc (own := [("_law_one", 7), ("_law_two", 9)]) (g := (gTup K 2 (gCons (gName 7) (gCons (gName 9) gNil)))) (tt := tYes) rfl sc_law_closed_in.nd (pi_zipM (by rfl) G.zip (pa_cons (pv 2) (pa_cons (pv 1) pa_nil))) (blkOk_by (N := ["_law_small", "_law_told", "_law_part", "_law_last", "_law_rest", "_law_turn", "_law_whole", "_law_one", "_law_other", "_law_two"]) (sc := defScope s_law_closed_in) (by decide +kernel)) (fun _ _ _ _ _ => (pg_tup (by rfl) (pgs_cons (pg_name (i := 7) sc_law_closed_in.nd rfl (Or.inl rfl)) (pgs_cons (pg_name (i := 9) sc_law_closed_in.nd rfl (Or.inl rfl)) pgs_nil)))) (fun _ _ _ _ _ => pts_nil) (fun _ _ _ _ _ => (pe_cal c_law_is_less hr (by rfl) (pa_cons (pv 9) (pa_cons (pv 7) pa_nil))))) pa_nil)))))) (pss_one (ps_ret pe_bl)) pss_nil)
      (pss_cons (ps_set (i := 3) sc_law_closed_in.nd rfl (Or.inl rfl) (pe_cal c_law_stepped hr (by rfl) (pa_cons (pv 0) (pa_cons (pv 3) pa_nil))))
      (pss_one (ps_setLc (i := 2) (own := [("_law_one", 7), ("_law_other", 8)]) (g := (gTup K 2 (gCons (gName 7) (gCons (gName 8) gNil)))) (tt := tYes) rfl sc_law_closed_in.nd rfl rfl (sw_true rfl rfl rfl (by decide +kernel)) (pi_zip (by rfl) G.zip (pa_cons (pv 2) (pa_cons (pv 3) pa_nil))) (blkOk_by (N := ["_law_small", "_law_told", "_law_part", "_law_last", "_law_rest", "_law_turn", "_law_whole", "_law_one", "_law_other", "_law_two"]) (sc := defScope s_law_closed_in) (by decide +kernel)) (fun _ _ _ _ _ => (pg_tup (by rfl) (pgs_cons (pg_name (i := 7) sc_law_closed_in.nd rfl (Or.inl rfl)) (pgs_cons (pg_name (i := 8) sc_law_closed_in.nd rfl (Or.inl rfl)) pgs_nil)))) (fun _ _ _ _ _ => pts_nil) (fun _ _ _ _ _ => (pe_cal c_law_plus hr (by rfl) (pa_cons (pv 7) (pa_cons (pv 8) pa_nil)))))))))))
      (pss_one (ps_ret pe_bl))))), ?_⟩
  have n30 := ok.n30
  have sol := SolT.of ok hp
  have bX0 := Yk_small ok
  have bD0 := dk_small (k := R.length) (eqr_abs ok) (by omega)
  have hD0 := sol.D0
  obtain ⟨pv, tv, rfl, npv, epv, atv⟩ := id hv
  have atv : AtAll Zn H ((List.range R.length).map fun s => frT (Yk (eqr R) R.length s R.length) (dk (eqr R) R.length)) tv := atv
  generalize hX : (fun q => Yk (eqr R) R.length q R.length) = X at sol
  have hXs : ∀ s, Yk (eqr R) R.length s R.length = X s := fun s => by rw [← hX]
  simp only [hXs] at bX0 atv
  generalize dk (eqr R) R.length = D at sol bD0 hD0 atv
  have lt : tv.length = R.length := by rw [atv.len, List.length_map, List.length_range]
  -- numbers
  have bIt : ∀ i s, s < R.length → (itV R X i s).natAbs < 2 ^ (60 * i + 4000) := fun i s hs => by
    have h1 := sol.it_le ok i s hs
    have h2 := itV_nn ok sol.nn i s hs
    have h3 := mul_pow_lt (j := 60 * i) (sol.nn s hs) (bX0 s) (Nat.le_refl _)
    have h4 : (0 : Int) ≤ 2 ^ (60 * i) * X s := Int.mul_nonneg (Int.le_of_lt (pow2_pos _)) (sol.nn s hs)
    omega
  have bEn : ∀ i s, s < R.length → (itV R (enV R) i s).natAbs < 2 ^ (60 * i + 4060) := fun i s hs => by
    have h1 := sol.it ok i s hs
    have h2 := itV_nn ok sol.nn (i + 1) s hs
    have h3 := itV_nn ok (fun s _ => enV_nn R s) i s hs
    have h4 := itV_nn ok sol.nn i s hs
    have h5 : itV R (enV R) i s ≤ D * itV R (enV R) i s := by
      have := Int.mul_le_mul_of_nonneg_right (show (1 : Int) ≤ D by omega) h3
      rw [Int.one_mul] at this
      exact this
    have h6 := mul_pow_lt (j := 60) h4 (bIt i s hs) (m := 60 * i + 4060) (by omega)
    have h7 : (0 : Int) ≤ 2 ^ 60 * itV R X i s := Int.mul_nonneg (by decide) h4
    omega
  have bPr : ∀ i s, s < R.length → (prV R i s).natAbs < 2 ^ (60 * i + 4060) := fun i s hs => by
    have h1 := sol.pr_le ok i s hs
    have h3 := prV_nn ok i s hs
    have h5 : prV R i s ≤ D * prV R i s := by
      have := Int.mul_le_mul_of_nonneg_right (show (1 : Int) ≤ D by omega) h3
      rw [Int.one_mul] at this
      exact this
    have h6 := mul_pow_lt (j := 60 * (i + 1)) (sol.nn s hs) (bX0 s) (m := 60 * i + 4060) (by omega)
    have h7 : (0 : Int) ≤ 2 ^ (60 * (i + 1)) * X s := Int.mul_nonneg (Int.le_of_lt (pow2_pos _)) (sol.nn s hs)
    omega
  have upto : ∀ {x : Int} {a b : Nat}, x.natAbs < 2 ^ a → a ≤ b → x.natAbs < 2 ^ b := fun h hab => Nat.lt_of_lt_of_le h (Nat.pow_le_pow_right (by decide) hab)
  have bP2 : ∀ k, ((2 : Int) ^ k).natAbs < 2 ^ (k + 1) := fun k => by rw [Int.natAbs_pow]; exact Nat.pow_lt_pow_right (by decide) (by omega)
  have bDp : ∀ k, (D * 2 ^ k).natAbs < 2 ^ (k + 4000) := fun k => by
    rw [Int.mul_comm]
    exact mul_pow_lt (Int.le_of_lt hD0) bD0 (Nat.le_refl _)
  -- part, last, rest
  refine ⟨_, rfl, Zn, u, z, R, rfl, hu, ok, fun L1 H1 s1 f1 => ?_⟩
  refine ⟨_, rfl, Zn, u, z, R, rfl, hu.same s1, ok, fun L2 H2 s2 f2 => ⟨_, _, rfl, ?_⟩⟩
  have s02 := s1.trans s2
  refine ⟨_, rfl, pv, tv, rfl, .inr (.of (s02 _ _ epv)), fun L3 n3 => ?_⟩
  have z3 := same_new n3 (.lst tv)
  have e3 : upd H2 L3 (.lst tv) L3 = some (.lst tv) := upd_same
  generalize upd H2 L3 (.lst tv) = H3 at *
  have s03 := s02.trans z3
  refine ⟨6, rfl, by decide, by decide, ?_⟩
  refine for_range (lo := 0) (n := 6) (fun i σ' G => Same H G ∧ ∃ (A B C : Addr) (Za Zb Zc : Zone) (y5 y6 : Option V), σ' = [some u, some (.ref pv), some (.ref A), some (.ref B), some (.ref C), y5, y6, none, none, none] ∧ FrAt Za G A R.length (prV R i) (2 ^ (60 * (i + 1))) ∧ FrAt Zb G B R.length (itV R (enV R) i) (2 ^ (60 * (i + 1))) ∧ FrAt Zc G C R.length (itV R X i) (D * 2 ^ (60 * i)))
    ⟨s03, L1, L2, L3, _, _, fun _ => False, _, _, rfl, (f1.same s2).same z3, f2.same z3, ⟨tv, id, e3, by
      show AtAll _ H3 ((List.range R.length).map fun s => frT (X s) (D * 2 ^ (60 * 0))) tv
      rw [Nat.mul_zero, Int.pow_zero, Int.mul_one]
      exact (atv.same s03).less fun _ f => f.elim⟩⟩ (fun i σ' G hi hh => ?_) (fun σ' G hh => q G hh.1)
  obtain ⟨sG, A, B, C, Za, Zb, Zc, y5, y6, rfl, fA, fB, fC⟩ := hh
  -- rest
  refine ⟨_, rfl, _, rfl, Zn, Zc, u, z, R, C, itV R X i, D * 2 ^ (60 * i), rfl, hu.same sG, ok, fC, Int.mul_pos hD0 (pow2_pos _), upto (bDp _) (by omega), fun s hs => itV_nn ok sol.nn i s hs, fun s hs => upto (bIt (i + 1) s hs) (by omega), fun C2 G2 s2' f2' => ?_⟩
  have ep1 : (2 : Int) ^ (60 * (i + 1)) * 2 ^ 60 = 2 ^ (60 * (i + 1 + 1)) := by rw [← Int.pow_add]; congr 1
  have eDp : D * 2 ^ (60 * i) * 2 ^ 60 = D * 2 ^ (60 * (i + 1)) := by rw [Int.mul_assoc, ← Int.pow_add]; congr 1
  rw [eDp] at f2'
  have f2' : FrAt (Trk G) G2 C2 R.length (itV R X (i + 1)) (D * 2 ^ (60 * (i + 1))) := f2'
  have fA2 := fA.same s2'
  have fB2 := fB.same s2'
  have sG2 := sG.trans s2'
  have p0 : (0 : Int) < 2 ^ (60 * (i + 1)) := pow2_pos _
  have Dp0 : 0 < D * 2 ^ (60 * (i + 1)) := Int.mul_pos hD0 p0
  have hpart := fun s hs => sol.part ok i s hs
  have hple := fun s hs => sol.pr_le ok i s hs
  have bA : ∀ s, s < R.length → (prV R i s).natAbs < 2 ^ 9000 := fun s hs => upto (bPr i s hs) (by omega)
  have bC : ∀ s, s < R.length → (itV R X (i + 1) s).natAbs < 2 ^ 9000 := fun s hs => upto (bIt (i + 1) s hs) (by omega)
  have bp : ((2 : Int) ^ (60 * (i + 1))).natAbs < 2 ^ 4450 := upto (bP2 _) (by omega)
  have bDp' : (D * 2 ^ (60 * (i + 1))).natAbs < 2 ^ 4450 := upto (bDp _) (by omega)
  clear fA fB fC
  obtain ⟨va, _, ea, aa⟩ := fA2.ob
  obtain ⟨vc, _, ec, ac⟩ := f2'.ob
  -- whole
  refine ⟨_, rfl, _, rfl, A, C2, va, vc, rfl, .of ea, .of ec, lc_plus fA2 f2' p0 Dp0 bp bDp' bA bC (by omega) fun W G3 s3' fW => ?_⟩
  have fW : FrAt (Trk G2) G3 W R.length X D := fW.to fun s hs => frT_eq (Int.mul_pos p0 Dp0) hD0 (by
    have := hpart s hs
    generalize (2 : Int) ^ (60 * (i + 1)) = pw at *
    have e : D * (prV R i s * (D * pw) + itV R X (i + 1) s * pw) = D * pw * (D * prV R i s + itV R X (i + 1) s) := by grind
    rw [e, this]
    grind)
  have sG3 := sG2.trans s3'
  obtain ⟨vw, _, ew, aw⟩ := fW.ob
  have ea3 := s3' _ _ ea
  have aa3 := aa.same s3'
  have lva : va.length = R.length := by rw [aa.len, List.length_map, List.length_range]
  dsimp only [gName]
  refine rd_ifx (fun H' => Same G3 H') (fun N hN => ?_) (fun G4 s4 => ?_)
  · refine ⟨_, rfl, _, rfl, pv, tv, rfl, .inr (.of (sG3 _ _ epv)), fun L4 n4 => ?_⟩
    have z4 := same_new n4 (.lst tv)
    have e4 : upd G3 L4 (.lst tv) L4 = some (.lst tv) := upd_same
    generalize upd G3 L4 (.lst tv) = G4 at *
    have aT : At (fun _ => False) G4 (.lst ((List.range R.length).map fun s => frT (X s) D)) (.ref W) := ⟨W, vw, rfl, id, z4 _ _ ew, (aw.same z4).less fun _ f => f.elim⟩
    have aU : At (fun _ => False) G4 (.lst ((List.range R.length).map fun s => frT (X s) D)) (.ref L4) := ⟨L4, tv, rfl, id, e4, (atv.same (sG3.trans z4)).less fun _ f => f.elim⟩
    refine ⟨_, _, At.dp _ _ aT (lay_frs _ _ _), At.dp _ _ aU (lay_frs _ _ _), shaped_th (lay_frs _ _ _) (dp_frs _ _ _), shaped_th (lay_frs _ _ _) (dp_frs _ _ _), _, rfl, ?_⟩
    rw [SeqAt.eqv_refl _ (lay_frs _ _ _)]
    refine iteF ?_
    have sG4 := sG3.trans z4
    refine ⟨_, rfl, _, rfl, A, pv, va, tv, rfl, .of (z4 _ _ ea3), .of (sG4 _ _ epv), fun D5 n5 => lc_it (walk_zipM (xs := va) (ys := tv) (n := R.length) (by omega)) (fun j G => Same G4 G ∧ G D5 = some (.lst ((List.replicate j false).map V.bl))) ⟨same_new n5 _, upd_same⟩ (fun j G _ p => ⟨.of (p.1 _ _ (z4 _ _ ea3)), .of (p.1 _ _ (sG4 _ _ epv))⟩) (fun j x G G' hj p y => ?_) (fun G5 p => ?_)⟩
    · obtain ⟨s5, e5⟩ := p
      obtain ⟨T, x1, x2, rfl, nT, rfl, g1, g2⟩ := y
      have zT := same_new nT (.tup [x1, x2])
      have sT := s5.trans zT
      refine ⟨T, _, rfl, .of upd_same, rfl, _, _, rfl, _, _, rfl, rfl, rfl, iteT (B := False) ?_⟩
      refine ⟨_, rfl, _, rfl, fun _ => False, x2, x1, X j, D, prV R i j, 2 ^ (60 * (i + 1)), rfl, ((frs_get atv g2).same (sG4.trans sT)).any, ((frs_get aa3 g1).same (z4.trans sT)).any, hD0, p0, upto (bX0 j) (by decide), bA j hj, upto bD0 (by decide), bp, ?_⟩
      rw [show decide (X j * 2 ^ (60 * (i + 1)) < prV R i j * D) = false from decide_eq_false (by
        have := hple j hj
        rw [Int.mul_comm (X j), Int.mul_comm (prV R i j)]
        omega)]
      refine ⟨_, zT _ _ e5, by rw [List.length_map, List.length_replicate, sizeLine_eq]; omega, Same.upd_new sT n5 _, ?_⟩
      rw [upd_same, show List.replicate (j + 1) false = List.replicate j false ++ [false] from List.replicate_succ', List.map_append]
      rfl
    · obtain ⟨s5, e5⟩ := p
      refine ⟨D5, _, rfl, .of e5, _, rfl, ?_⟩
      rw [show ((List.replicate R.length false).any id) = false by simp]
      exact iteF (hN _ (z4.trans s5))
  have fB4 := fB2.same (s3'.trans s4)
  have fA4 := fA2.same (s3'.trans s4)
  have fC4 := f2'.same (s3'.trans s4)
  have sG4 := sG3.trans s4
  -- last
  refine ⟨_, rfl, _, rfl, Zn, Zb, u, z, R, B, itV R (enV R) i, 2 ^ (60 * (i + 1)), rfl, hu.same sG4, ok, fB4, p0, upto (bP2 _) (by omega), fun s hs => itV_nn ok (fun s _ => enV_nn R s) i s hs, fun s hs => upto (bEn (i + 1) s hs) (by omega), fun B2 G5 s5 f5 => ?_⟩
  rw [ep1] at f5
  have f5 : FrAt (Trk G4) G5 B2 R.length (itV R (enV R) (i + 1)) (2 ^ (60 * (i + 1 + 1))) := f5
  have fA5 := fA4.same s5
  have fC5 := fC4.same s5
  have sG5 := sG4.trans s5
  obtain ⟨va5, _, ea5, _⟩ := fA5.ob
  obtain ⟨vb5, _, eb5, _⟩ := f5.ob
  have q0 : (0 : Int) < 2 ^ (60 * (i + 1 + 1)) := pow2_pos _
  refine ⟨_, rfl, _, rfl, A, B2, va5, vb5, rfl, .of ea5, .of eb5, lc_plus fA5 f5 p0 q0 bp (upto (bP2 _) (by omega)) bA (fun s hs => upto (bEn (i + 1) s hs) (by omega)) (by omega) fun A2 G6 s6 f6 => ?_⟩
  refine ⟨sG5.trans s6, A2, B2, C2, _, _, _, _, _, rfl, f6.to fun s hs => frT_eq (Int.mul_pos p0 q0) q0 ?_, f5.same s6, fC5.same s6⟩
  rw [← ep1]
  show _ = _ * (2 ^ 60 * prV R i s + itV R (enV R) (i + 1) s)
  generalize (2 : Int) ^ (60 * (i + 1)) = pw
  grind
end
end KL
end
section
set_option maxHeartbeats 1000000
namespace KL
open PySem PySem.Spec PyProof.Rows L2
def spGreat : Sp := fun vs H Q _ => ∃ (P G S : Addr) (t : Int), vs = [.ref P, .int t] ∧ PotAt P G S H ∧ 0 < t ∧ ∀ r H', 0 ≤ r → r < t → SB (AtP P G) H H' → PotAt P G S H' → Q (.int r) H'
section
variable {P : Program} {w : World} {K : PySem.W.Frag} {mg : Str → Option Value} {base : Heap} {k : Nat} {t1 t2 t3 : Tok}
end
end KL
end
section
set_option maxHeartbeats 1000000
namespace KL
open PySem PySem.Spec PyProof.Rows L2
theorem CoZn.less {Zn Zm : Zone} {C : Addr} {H : Hp} {p tb : Addr} (h : CoZn Zn C H p tb) (z : ∀ a, Zm a → Zn a) : CoZn Zm C H p tb := ⟨fun dx pr aw ao as ts q1 q4 q12 => by
  obtain ⟨a1, a2, a3, a4, a5⟩ := h.z _ _ _ _ _ _ q1 q4 q12
  exact ⟨fun h => a1 (z _ h), fun h => a2 (z _ h), fun h => a3 (z _ h), fun a m h => a4 a m (z _ h), fun a m h => a5 a m (z _ h)⟩⟩
theorem CoAt.news {Zn : Zone} {C : Addr} {zi : Int} {R : List Th} {H : Hp} {p tb L : Addr} {j : Nat} (co : CoAt C zi R H p tb j) (hz : CoZn Zn C H p tb) (ht : ∀ a, Zn a → Trk H a) (nL : H L = none) (o : HO) :
    CoAt C zi R (upd H L o) p tb j ∧ CoZn (fun a => a = L ∨ Zn a) C (upd H L o) p tb ∧ (∀ a, (a = L ∨ Zn a) → Trk (upd H L o) a) ∧ L ≠ tb := by
  have zL := same_new nL o
  refine ⟨co.same zL, ?_, fun a h => ?_, fun e => ?_⟩
  · have h1 : CoZn (fun a => a = L ∨ Zn a) C H p tb := ⟨fun dx pr aw ao as ts q1 q4 q12 => by
      obtain ⟨a1, a2, a3, a4, a5⟩ := hz.z _ _ _ _ _ _ q1 q4 q12
      obtain ⟨b1, b2, b3, b4, b5⟩ := (co.zn (Zn := At1 L) fun a e => by rw [show a = L from e]; exact nL).z _ _ _ _ _ _ q1 q4 q12
      exact ⟨fun h => h.elim b1 a1, fun h => h.elim b2 a2, fun h => h.elim b3 a3, fun a m h => h.elim (b4 a m) (a4 a m), fun a m h => h.elim (b5 a m) (a5 a m)⟩⟩
    exact h1.same co zL
  · rcases h with rfl | h
    · exact .of upd_same
    · exact Trk.same zL (ht a h)
  · obtain ⟨dx, pr, aw, ao, us, as, ord, ts, e1, e2, e3, e4, e5, e6, e7, e8, e9, e10, e11, e12, e13, e14⟩ := co.ob
    rw [e, e12] at nL; cases nL
theorem CoZn.trk {Zn : Zone} {C : Addr} {zi : Int} {R : List Th} {H H' : Hp} {p tb : Addr} {j : Nat} (hz : CoZn Zn C H p tb) (co : CoAt C zi R H p tb j) (ht : ∀ a, Zn a → Trk H a) (s : SB (At1 tb) H H') : ∀ a, Zn a → Trk H' a := fun a h => by
  obtain ⟨o, ho⟩ := Option.ne_none_iff_exists'.mp (ht a h)
  obtain ⟨dx, pr, aw, ao, us, as, ord, ts, e1, e2, e3, e4, e5, e6, e7, e8, e9, e10, e11, e12, e13, e14⟩ := co.ob
  exact .of (s _ _ (fun e => (hz.z _ _ _ _ _ _ e1 e4 e12).2.2.1 (by rw [← show a = tb from e]; exact h)) ho)
theorem CoAt.tbT {C : Addr} {zi : Int} {R : List Th} {H : Hp} {p tb : Addr} {j : Nat} (co : CoAt C zi R H p tb j) : (∃ xs, H tb = some (.lst xs)) ∧ ∃ dx pr aw ao, H p = some (.ins C dx (flC pr aw ao tb)) := by
  obtain ⟨dx, pr, aw, ao, us, as, ord, ts, e1, e2, e3, e4, e5, e6, e7, e8, e9, e10, e11, e12, e13, e14⟩ := co.ob
  exact ⟨⟨_, e12⟩, dx, pr, aw, ao, e1⟩
theorem sumC_int (R : List Th) (z b s : Nat) : ∀ l : Nat, (((List.range l).map fun i => ((cst R z b (stp R s i) : Nat) : Int))).sum = ((sumC R z b s l : Nat) : Int)
  | 0 => rfl
  | l + 1 => by
    rw [List.range_succ, List.map_append, List.sum_append, sumC_int R z b s l, sumC_succ]
    simp
section
variable {P : Program} {w : World} {K : PySem.W.Frag} {mg : Str → Option Value} {base : Heap} {k : Nat} {C CM : Addr}
end
end KL
end
section
set_option maxHeartbeats 1000000
namespace KL
open PySem PySem.Spec PyProof.Rows L2
/-- the greatest length that is counted -/
structure Ml1 (mg : Str → Option Value) (t4 : Tok) : Prop where
  MOST_LENGTH : mg "MOST_LENGTH" = some (.int 4000 t4)
abbrev sc_demand_lengthN : List Str := ["thing"]
abbrev s_demand_length : Stmt := topS 44
theorem sc_demand_length : FnScope ["thing"] ["thing"] (defScope s_demand_length) := ⟨rfl, rfl, rfl, by decide +kernel, rfl, by decide +kernel, by decide +kernel⟩
abbrev sc_demand_busyN : List Str := ["machine"]
abbrev s_demand_busy : Stmt := topS 45
theorem sc_demand_busy : FnScope ["machine"] ["machine"] (defScope s_demand_busy) := ⟨rfl, rfl, rfl, by decide +kernel, rfl, by decide +kernel, by decide +kernel⟩
abbrev sc_manyN : List Str := ["machine", "length"]
abbrev s_many : Stmt := topS 46
theorem sc_many : FnScope ["machine", "length"] ["machine", "length"] (defScope s_many) := ⟨rfl, rfl, rfl, by decide +kernel, rfl, by decide +kernel, by decide +kernel⟩
def spDLen (CN : Addr) : Sp := fun vs H Q E => ∃ (Z : Zone) (v : V) (d : Th), vs = [v] ∧ At Z H d v ∧ shortT d = true ∧ (inn 0 4000 d = true → ∀ H', Same H H' → Q .non H') ∧ (inn 0 4000 d = false → ∀ H', Same H H' → E (.ref CN) none H')
def spDShort : Sp := fun vs H Q _ => ∃ b : Int, vs = [.int b] ∧ b ≤ 4000 ∧ Q .non H
def spBusy (CI : Addr) : Sp := fun vs H Q E => ∃ (Z : Zone) (u : V) (z : Int) (rows : List Th), vs = [u] ∧ At Z H (.tup [.int z, .tup rows]) u ∧ MOk z rows ∧ (NoR (trimL z rows) → ∀ H', Same H H' → Q .non H') ∧ (¬ NoR (trimL z rows) → ∀ H', Same H H' → E (.ref CI) none H')
def spOwned (CM CT : Addr) : Sp := fun vs H Q E => ∃ Z u v e d, vs = [u, v] ∧ At Z H e u ∧ At Z H d v ∧ shortT e = true ∧ shortT d = true ∧
  (∀ z rows ls b, e = .tup [.int z, .tup rows] → MOk z rows → d = .tup ls → textB z d = true → lenT rows ls = some b → ∀ H', Same H H' → Q (.int b) H') ∧
  (∀ z rows, e = .tup [.int z, .tup rows] → MOk z rows → (textB z d = false ∨ ∃ ls, d = .tup ls ∧ lenT rows ls = none) → ∀ H', Same H H' → E (.ref CT) none H') ∧ (machB e = false → ∀ H', Same H H' → E (.ref CM) none H')
def spMany (CM CN CI : Addr) : Sp := fun vs H Q E => ∃ (Z : Zone) (u v : V) (e d : Th), vs = [u, v] ∧ At Z H e u ∧ At Z H d v ∧ shortT e = true ∧ shortT d = true ∧
  (∀ z rows (b : Nat), e = .tup [.int z, .tup rows] → MOk z rows → d = .int (b : Nat) → b ≤ 4000 → NoR (trimL z rows) → ∀ H', Same H H' → Q (nV (ctN (trimL z rows) z.toNat b 0)) H') ∧
  (∀ z rows, e = .tup [.int z, .tup rows] → MOk z rows → inn 0 4000 d = true → ¬ NoR (trimL z rows) → ∀ H', Same H H' → E (.ref CI) none H') ∧
  (machB e = true → inn 0 4000 d = false → ∀ H', Same H H' → E (.ref CN) none H') ∧ (machB e = false → ∀ H', Same H H' → E (.ref CM) none H')
def spTextAt (CM CN CI : Addr) : Sp := fun vs H Q E => ∃ (Z : Zone) (u v x : V) (e d g : Th), vs = [u, v, x] ∧ At Z H e u ∧ At Z H d v ∧ At Z H g x ∧ shortT e = true ∧ shortT d = true ∧ shortT g = true ∧
  (∀ z rows (b pl : Nat) ls, e = .tup [.int z, .tup rows] → MOk z rows → d = .int (b : Nat) → b ≤ 4000 → NoR (trimL z rows) → g = .int (pl : Nat) → (tx (trimL z rows) z.toNat b 0)[pl]? = some ls → ∀ y H', Same H H' → At (Trk H) H' (.tup (thN ls)) y → Q y H') ∧
  (∀ z rows (b : Nat), e = .tup [.int z, .tup rows] → MOk z rows → d = .int (b : Nat) → b ≤ 4000 → NoR (trimL z rows) → inn 0 ((ctN (trimL z rows) z.toNat b 0 : Nat) - 1 : Int) g = false → ∀ H', Same H H' → E (.ref CN) none H') ∧
  (∀ z rows, e = .tup [.int z, .tup rows] → MOk z rows → inn 0 4000 d = true → ¬ NoR (trimL z rows) → ∀ H', Same H H' → E (.ref CI) none H') ∧
  (machB e = true → inn 0 4000 d = false → ∀ H', Same H H' → E (.ref CN) none H') ∧ (machB e = false → ∀ H', Same H H' → E (.ref CM) none H')
/-- place_of where the length is none too great -/
def spPlaceOf (CM CT CI : Addr) : Sp := fun vs H Q E => ∃ (Z : Zone) (u v : V) (e d : Th), vs = [u, v] ∧ At Z H e u ∧ At Z H d v ∧ shortT e = true ∧ shortT d = true ∧
  (∀ z rows ls b, e = .tup [.int z, .tup rows] → MOk z rows → d = .tup ls → textB z d = true → lenT rows ls = some b → NoR (trimL z rows) → b ≤ 4000) ∧
  (∀ z rows (ls : List Nat) (b : Nat), e = .tup [.int z, .tup rows] → MOk z rows → d = .tup (thN ls) → (∀ l ∈ ls, l < z.toNat) → lnN (trimL z rows) 0 ls = some b → NoR (trimL z rows) → b ≤ 4000 → ∀ H', Same H H' → Q (nV (plc (trimL z rows) z.toNat b 0 ls)) H') ∧
  (∀ z rows ls b, e = .tup [.int z, .tup rows] → MOk z rows → d = .tup ls → textB z d = true → lenT rows ls = some b → ¬ NoR (trimL z rows) → ∀ H', Same H H' → E (.ref CI) none H') ∧
  (∀ z rows, e = .tup [.int z, .tup rows] → MOk z rows → (textB z d = false ∨ ∃ ls, d = .tup ls ∧ lenT rows ls = none) → ∀ H', Same H H' → E (.ref CT) none H') ∧ (machB e = false → ∀ H', Same H H' → E (.ref CM) none H')
theorem letsN {z : Int} {d : Th} (z1 : 1 ≤ z) (h : textB z d = true) : ∃ ls : List Nat, d = .tup (thN ls) ∧ ∀ l ∈ ls, l < z.toNat := by
  obtain ⟨ts, rfl, hl⟩ := textB_ls h
  refine ⟨ts.map fun t => (num t).toNat, ?_, fun l m => ?_⟩
  · congr 1
    unfold thN
    rw [List.map_map]
    symm
    rw [List.map_congr_left (g := id)]
    · exact List.map_id _
    · intro t mt
      obtain ⟨i, rfl, i0, i1⟩ := hl t mt
      show Th.int ((i.toNat : Nat) : Int) = .int i
      rw [Int.toNat_of_nonneg i0]
  · obtain ⟨t, mt, rfl⟩ := List.mem_map.mp m
    obtain ⟨i, rfl, i0, i1⟩ := hl t mt
    show i.toNat < z.toNat
    omega
theorem inn_nat {lo hi : Nat} {d : Th} (h : inn lo hi d = true) : ∃ i : Nat, d = .int (i : Nat) ∧ lo ≤ i ∧ i ≤ hi := by
  obtain ⟨i, rfl, h1, h2⟩ := inn_int h
  exact ⟨i.toNat, by rw [Int.toNat_of_nonneg (by omega)], by omega, by omega⟩
section
variable {P : Program} {w : World} {K : PySem.W.Frag} {mg : Str → Option Value} {base : Heap} {k : Nat} {C CM CN CI CT : Addr}
theorem ok_demand_length (M : ∃ t4, mg "MOST_LENGTH" = some (.int 4000 t4)) (T : Er K mg "NoNumber" CN) (c_is_within : Cal P w K mg base CX0 k "is_within" ["thing", "low", "high"] (spTh2 inn)) (d : Def K mg "demand_length" s_demand_length ["thing"]) : Cal P w K mg base (L2.CX P w) (k + 1) "demand_length" ["thing"] (spDLen CN) := by
  refine d.okX sc_demand_length (fun vs H Q E h => ?_) (fun f cdv A outer s H vs Q E hr h => ?_)
  · obtain ⟨_, _, _, rfl, _⟩ := h; rfl
  obtain ⟨Z, v, d, rfl, hv, sd, q1, q0⟩ := h
  obtain ⟨t4, hM⟩ := M
  have M : Ml1 mg t4 := ⟨hM⟩
  refine ⟨_, (pss_one (ps_if (pt_not (pt_val (pe_cal c_is_within hr (by rfl) (pa_cons (pv 0) (pa_cons pe_int (pa_cons (pe_glob (v := .int 4000) (by rfl) M.MOST_LENGTH ⟨_, rfl⟩) pa_nil)))))) (pss_one (ps_raise rfl (takes_of rfl rfl rfl rfl) (pmk_bare PySem.F.excBase_ValueError T.x T.g T.k (raises_own T.b T.t) (by exact rfl)))) pss_nil)), ?_⟩
  refine ⟨v, rfl, Z, v, d, 0, 4000, rfl, hv, sd, fun H1 s1 => ⟨_, rfl, iteB (fun e => ?_) (fun e => ?_)⟩⟩
  · exact q0 (not_true e) H1 s1
  · exact q1 (not_false' e) H1 s1
theorem ok_demand_busy (T : Er K mg "Idle" CI) (c_idle : Cal P w K mg base (L2.CX P w) k "idle" ["machine"] (spIdle1 CM)) (d : Def K mg "demand_busy" s_demand_busy ["machine"]) : Cal P w K mg base (L2.CX P w) (k + 1) "demand_busy" ["machine"] (spBusy CI) := by
  refine d.okX sc_demand_busy (fun vs H Q E h => ?_) (fun f cdv A outer s H vs Q E hr h => ?_)
  · obtain ⟨_, _, _, _, rfl, _⟩ := h; rfl
  obtain ⟨Z, u, z, rows, rfl, hu, ok, q1, q0⟩ := h
  refine ⟨_, (pss_one (ps_if (pt_cmpR op_notN (pe_calE (E := E) c_idle hr (by rfl) (takes_of rfl rfl rfl rfl) (pa_cons (pv 0) pa_nil)) pe_non (nomark _)) (pss_one (ps_raise rfl (takes_of rfl rfl rfl rfl) (pmk_bare PySem.F.excBase_ValueError T.x T.g T.k (raises_own T.b T.t) (by exact rfl)))) pss_nil)), ?_⟩
  refine ⟨u, rfl, Z, u, _, rfl, hu, ok.short, fun z' rows' e' ok' tv H1 s1 it => ?_, fun e' => by rw [ok.mach] at e'; cases e'⟩
  obtain ⟨rfl, rfl⟩ := mach_inj e'
  refine ⟨rfl, _, rfl, ?_⟩
  rcases it with ⟨rfl, nf⟩ | ⟨s0, ls, ht, hs, hL, hn, _, hw⟩
  · exact iteF (q1 nf H1 s1)
  · have htv : ∃ a, tv = .ref a := by obtain ⟨a, _, e, _⟩ := ht; exact ⟨a, e⟩
    obtain ⟨a, rfl⟩ := htv
    refine iteT (q0 (fun nf => ?_) H1 s1)
    rcases fwalk_FR (trimL z rows) ls s0 s0 hw with ⟨_, h⟩ | h
    · exact hn h
    · exact nf s0 hs h
end
end KL
end
section
set_option maxHeartbeats 1000000
namespace KL
open PySem PySem.Spec PyProof.Rows L2
theorem use_counts {C : Addr} {Z : Zone} {H1 : Hp} {u : V} {z : Int} {rows : List Th} {x dx : Addr} {vs : List V} {Qx : Hp → Prop} {E : XK} (evs : vs = [.ref x, u]) (hu : At Z H1 (.tup [.int z, .tup rows]) u) (ok : MOk z rows) (nf : NoR (trimL z rows)) (nx : H1 x = none) (ndx : H1 dx = none) (ne : dx ≠ x)
    (q : ∀ tb H', Same H1 H' → H1 tb = none → CoAt C z (trimL z rows) H' x tb 0 → Qx H') : spCounts C vs (upd (upd H1 dx (.own x)) x (.ins C dx [])) (fun v H2 => v = .non ∧ Qx H2) E := by
  subst evs
  have z1 := same_new ndx (.own x)
  have nx' : upd H1 dx (.own x) x = none := by rw [upd_ne (Ne.symm ne)]; exact nx
  have z2 := same_new nx' (.ins C dx [])
  refine ⟨Z, x, dx, u, z, rows, rfl, upd_same, hu.same (z1.trans z2), ok, nf, fun tb H' s1 nt co => ⟨rfl, q tb H' (fun b o hb => s1 _ _ (ne_of_none hb nx) ((z1.trans z2) _ _ hb)) (Same.free (z1.trans z2) nt) co⟩⟩
theorem lenT_trim {z : Int} {rows : List Th} (ok : MOk z rows) (ls : List Nat) : lenT rows (thN ls) = (lnN (trimL z rows) 0 ls).map fun b => ((b : Nat) : Int) := by
  rw [len_trim ok, lenT_lnN (trimL_ok ok)]
section
variable {P : Program} {w : World} {K : PySem.W.Frag} {mg : Str → Option Value} {base : Heap} {k : Nat} {C CM CN CI CT : Addr}
theorem ok_many (c_demand_machine : Cal P w K mg base (L2.CX P w) (k + 1) "demand_machine" ["thing"] (spDemand CM)) (c_demand_length : Cal P w K mg base (L2.CX P w) (k + 1) "demand_length" ["thing"] (spDLen CN)) (c_demand_busy : Cal P w K mg base (L2.CX P w) (k + 1) "demand_busy" ["machine"] (spBusy CI))
    (c_Counts : ICal P w K mg base CX0 k "Counts" C ["self", "machine"] (spCounts C)) (c_Counts_of_length : MCal P w K mg base CX0 (k + 1) C "of_length" ["self", "bits"] (spOfLen C)) (d : Def K mg "many" s_many ["machine", "length"]) : Cal P w K mg base (L2.CX P w) (k + 1 + 1) "many" ["machine", "length"] (spMany CM CN CI) := by
  refine d.okX sc_many (fun vs H Q E h => ?_) (fun f cdv A outer s H vs Q E hr h => ?_)
  · obtain ⟨_, _, _, _, _, rfl, _⟩ := h; rfl
  obtain ⟨Z, u, v, e, dd, rfl, hu, hv, se, sd, q1, q2, q3, q4⟩ := h
  refine ⟨_, (pss_cons (ps_expr (pe_calE (E := E) c_demand_machine hr (by rfl) (takes_of rfl rfl rfl rfl) (pa_cons (pv 0) pa_nil)))
      (pss_cons (ps_expr (pe_calE (E := E) c_demand_length hr (by rfl) (takes_of rfl rfl rfl rfl) (pa_cons (pv 1) pa_nil)))
      (pss_cons (ps_expr (pe_calE (E := E) c_demand_busy hr (by rfl) (takes_of rfl rfl rfl rfl) (pa_cons (pv 0) pa_nil)))
      (pss_one (ps_ret (pe_mcal c_Counts_of_length hr (pe_kcal c_Counts hr (by rfl) (pa_cons (pv 0) pa_nil)) (pa_cons (pv 1) pa_nil))))))), ?_⟩
  refine ⟨_, rfl, Z, u, e, rfl, hu, se, fun em H1 s1 => ?_, fun em H1 s1 => q4 em H1 s1⟩
  refine ⟨_, rfl, Z, v, dd, rfl, hv.same s1, sd, fun ed H2 s2 => ?_, fun ed H2 s2 => q3 em ed H2 (s1.trans s2)⟩
  obtain ⟨z, rows, rfl, ok⟩ := machB_ok em
  have s12 := s1.trans s2
  refine ⟨_, rfl, Z, u, z, rows, rfl, hu.same s12, ok, fun nf H3 s3 => ?_, fun nn H3 s3 => q2 z rows rfl ok ed nn H3 (s12.trans s3)⟩
  have s13 := s12.trans s3
  obtain ⟨b, rfl, _, hb⟩ := inn_nat (lo := 0) (hi := 4000) ed
  have hv3 : v = .int (b : Nat) := (hv.same s13)
  subst hv3
  refine ⟨_, rfl, fun x dx nx ndx ne => use_counts rfl (hu.same s13) ok nf nx ndx ne fun tb H4 s4 nt co => ?_⟩
  obtain ⟨_, dxc, pr, aw, ao, ep⟩ := co.tbT
  refine ⟨x, dxc, _, rfl, ep, flC_no _ _ _ _ (by decide +kernel) (by decide +kernel) (by decide +kernel) (by decide +kernel), _, rfl, x, tb, z, trimL z rows, 0, b, fun _ => False, rfl, co, trimL_ok ok, nf, by omega, by omega, (fun _ h => h.elim), CoZn.no _ _ _ _, fun j' H5 s5 co5 _ _ _ => ?_⟩
  exact q1 z rows b rfl ok rfl hb nf H5 (fun b o hb => s5 _ _ (ne_of_none (s13 _ _ hb) nt) (s4 _ _ (s13 _ _ hb)))
end
end KL
end
section
set_option maxHeartbeats 1000000
namespace KL
open PySem PySem.Spec PyProof.Rows L2
mutual
theorem At.away {Z : Zone} {H : Hp} {L : Addr} {xs : List V} (eL : H L = some (.lst xs)) : ∀ {d : Th} {v : V}, noL d = true → At Z H d v → At (At1 L) H d v
  | .non, _, _, h => h
  | .bl _, _, _, h => h
  | .int _, _, _, h => h
  | .str _, _, _, h => h
  | .tup _, _, n, ⟨a, vs, e, na, h, t⟩ => ⟨a, vs, e, ne_of h eL (by intro z; cases z), h, AtAll.away eL n t⟩
theorem AtAll.away {Z : Zone} {H : Hp} {L : Addr} {xs : List V} (eL : H L = some (.lst xs)) : ∀ {ds : List Th} {vs : List V}, noLs ds = true → AtAll Z H ds vs → AtAll (At1 L) H ds vs
  | [], _, _, h => h
  | x :: xs', _, n, ⟨u, us, e, h, t⟩ => by
    rw [noLs, Bool.and_eq_true] at n
    exact ⟨u, us, e, At.away eL n.1 h, AtAll.away eL n.2 t⟩
end
theorem row_ss {zi : Int} {R ss : List Th} {e : Th} {s l m t : Nat} (er : R[s]? = some (.tup [e, .tup ss])) (h : stp R s l = some (m, t)) (ok : MOk zi R) : ss[l]? = some (.tup [.int (m : Nat), .int (t : Nat)]) := by
  obtain ⟨_, _, hat⟩ := stp_lt ok h
  unfold stepAt at hat
  rw [er] at hat
  have h3 : ((ss)[l]?).getD .non = .tup [.int (m : Nat), .int (t : Nat)] := hat
  cases e : ss[l]? with
  | none => rw [e] at h3; cases h3
  | some x => rw [e] at h3; rw [← h3]; rfl
def spAheadL : Sp := fun vs H Q _ => ∃ (Z Z1 Z2 : Zone) (u v : V) (D : Addr) (z : Int) (R : List Th) (n w : Nat) (ls : List Nat), vs = [u, .ref D, v, .int (w : Nat)] ∧ At Z H (.tup [.int z, .tup R]) u ∧ MOk z R ∧ NoR R ∧ CtAt Z1 H R z.toNat D n ∧ At Z2 H (.tup (thN ls)) v ∧ (∀ l ∈ ls, l < z.toNat) ∧ lnN R 0 ls = some w ∧ w < n ∧ n ≤ 90000 ∧ ∀ H', Same H H' → Q (nV (plc R z.toNat w 0 ls)) H'
section
variable {P : Program} {w : World} {K : PySem.W.Frag} {mg : Str → Option Value} {base : Heap} {k : Nat}
end
end KL
end
section
set_option maxHeartbeats 1000000
namespace KL
open PySem PySem.Spec PyProof.Rows L2
/-- what a for goes over, told apart from the loop -/
theorem for_share {K : PySem.W.Frag} {te : TE} {g : TG} {tb : TS} {D : Ends} {σ : L2.St} {H : Hp} (I : Addr → Hp → Prop) (h1 : ∀ R : VK, (∀ a H', I a H' → R (.ref a) H') → te σ H R)
    (h2 : ∀ a H', I a H' → (∃ xs, SqL K H' a xs) ∧ ∃ W : Nat → Nat → L2.St → Hp → Prop, (∃ m, W 0 m σ H') ∧ ∀ i m σ H, W i m σ H →
      ((Itl K a).stop i H ∧ D.nx σ H) ∨ ((Itl K a).go i H ∧ ∃ N : L2.St → Hp → Prop, (∀ σ' H', N σ' H' → ∃ m', m' < m ∧ W (i + 1) m' σ' H') ∧ ∀ x H', (Itl K a).yld i H x H' → g x σ H' fun σ2 H2 => tb { D with nx := N, ct := N, bk := D.nx } σ2 H2)) : tFor (iList K te) g tb D σ H :=
  h1 _ fun a H' i => ⟨a, rfl, (h2 a H' i).1, (h2 a H' i).2⟩
theorem lex_ltN : ∀ {xs ys : List Nat}, ltN xs ys → HT.lexLt (xs.map fun l => ((l : Nat) : Int)) (ys.map fun l => ((l : Nat) : Int)) = true
  | [], [], h => h.elim
  | [], _ :: _, _ => rfl
  | _ :: _, [], h => h.elim
  | x :: xs, y :: ys, h => by
    rw [List.map_cons, List.map_cons, HT.lexLt_cons]
    rcases h with h | ⟨rfl, h⟩
    · rw [if_neg (by omega), decide_eq_true (by omega)]
    · rw [if_pos rfl]
      exact lex_ltN h
theorem tx_plc {zi : Int} {R : List Th} (ok : MOk zi R) (nf : NoR R) {z b s pl : Nat} {ls : List Nat} (h : (tx R z b s)[pl]? = some ls) : plc R z b s ls = pl := by
  obtain ⟨h1, h2⟩ := (mem_tx ok nf).mp (List.mem_of_getElem? h)
  have g := tx_get ok nf ls b s h1 h2
  exact (List.getElem?_inj (List.getElem?_eq_some_iff.mp g).1 (tx_nodup R z b s)).mp (g.trans h.symm)
theorem tx_lt {R : List Th} {z b s p q : Nat} {xs ys : List Nat} (hx : (tx R z b s)[p]? = some xs) (hy : (tx R z b s)[q]? = some ys) (h : p < q) : ltN xs ys := by
  obtain ⟨a1, a2⟩ := List.getElem?_eq_some_iff.mp hx
  obtain ⟨b1, b2⟩ := List.getElem?_eq_some_iff.mp hy
  rw [← a2, ← b2]
  exact List.pairwise_iff_getElem.mp (tx_sorted R z b s) p q a1 b1 h
theorem CtAt.sb {Z Z' : Zone} {H H' : Hp} {R : List Th} {z n : Nat} {D : Addr} (h : CtAt Z H R z D n) (s : SB Z' H H') (hz : ∀ a, Z' a → Z a) : CtAt Z H' R z D n := by
  obtain ⟨nD, cs, e1, e2, e3⟩ := h.ob
  exact ⟨nD, cs, s _ _ (fun e => nD (hz _ e)) e1, e2, fun b a e => ⟨(e3 b a e).1, s _ _ (fun x => (e3 b a e).1 (hz _ x)) (e3 b a e).2⟩⟩
theorem thN_inj : ∀ {xs ys : List Nat}, thN xs = thN ys → xs = ys
  | [], [], _ => rfl
  | [], _ :: _, h => by cases h
  | _ :: _, [], h => by cases h
  | x :: xs, y :: ys, h => by
    injection h with h1 h2
    injection h1 with h1
    rw [thN_inj h2, show x = y by omega]
theorem At.ints {Z : Zone} {H : Hp} {ls : List Nat} {y : V} (h : At Z H (.tup (thN ls)) y) : ∃ a, y = .ref a ∧ H a = some (.tup ((ls.map fun l => ((l : Nat) : Int)).map V.int)) := by
  obtain ⟨a, vs, rfl, _, e, ha⟩ := h
  refine ⟨a, rfl, ?_⟩
  rw [e]
  have hv : ∀ {ls : List Nat} {vs : List V}, AtAll Z H (thN ls) vs → vs = (ls.map fun l => ((l : Nat) : Int)).map V.int := by
    intro ls
    induction ls with
    | nil => intro vs h; cases h; rfl
    | cons l r ih =>
      intro vs h
      obtain ⟨u, us, rfl, h1, h2⟩ := h
      rw [ih h2]
      show _ = V.int (l : Nat) :: _
      rw [show u = .int (l : Nat) from h1]
  rw [hv ha]
def spFar : Sp := fun vs H Q _ => ∃ (P G S : Addr) (u v : V) (z : Int) (rows : List Th) (w : Nat), vs = [.ref P, u, v, .int (w : Nat)] ∧ PotAt P G S H ∧ At (AtP P G) H (.tup [.int z, .tup rows]) u ∧ MOk z rows ∧ At (AtP P G) H (.tup [.int z, .tup (trimL z rows)]) v ∧ NoR (trimL z rows) ∧ w ≤ 4000 ∧ ∀ H', SB (AtP P G) H H' → PotAt P G S H' → Q (.bl true) H'
section
variable {P : Program} {w : World} {K : PySem.W.Frag} {mg : Str → Option Value} {base : Heap} {k : Nat} {t1 t2 t3 : Tok}
end
end KL
end
section
set_option maxHeartbeats 1000000
namespace KL
open PySem PySem.Spec PyProof.Rows L2
/-! ### sorted(xs), xs a list of pairs of a number and a text -/
abbrev NT := Nat × List Nat
def thP (b : NT) : Th := .tup [.int (b.1 : Nat), .tup (thN b.2)]
def encP (b : NT) : PyData := .tuple [.int (b.1 : Nat), .tuple ((b.2.map fun l => ((l : Nat) : Int)).map .int)]
theorem pyL_thN : ∀ ls : List Nat, pyL (thN ls) = (ls.map fun l => ((l : Nat) : Int)).map .int
  | [] => by rw [show thN [] = [] from rfl, pyL]; rfl
  | l :: ls => by
    rw [show thN (l :: ls) = .int (l : Nat) :: thN ls from rfl, pyL, py, pyL_thN ls]
    rfl
theorem py_thP (b : NT) : py (thP b) = encP b := by
  unfold thP encP
  rw [py, pyL, pyL, pyL, py, py, pyL_thN]
theorem lay_ints : ∀ xs : List Int, PyData.canLayAll0 (xs.map .int) = true
  | [] => by simp [PyData.canLayAll0]
  | x :: xs => by simp [PyData.canLayAll0, PyData.canLay0, lay_ints xs]
theorem lay_thP (b : NT) : (py (thP b)).canLay0 = true := by
  rw [py_thP]
  unfold encP
  simp [-List.map_map, PyData.canLay0, PyData.canLayAll0, lay_ints]
theorem depth_encP (b : NT) : (encP b).depth ≤ 8 := by
  unfold encP
  simp only [PyData.depth, PyData.depthAll, PySem.W.depth_ints]
  omega
/-- the one before the other: by their numbers, then by their texts -/
def ltP2 (a b : NT) : Prop := a.1 < b.1 ∨ (a.1 = b.1 ∧ ltN a.2 b.2)
theorem ltN_lt : ∀ xs ys : List Nat, ltN xs ys ↔ (xs.map fun l => ((l : Nat) : Int)) < (ys.map fun l => ((l : Nat) : Int))
  | [], [] => by simp [ltN]
  | [], y :: ys => by simp [ltN]
  | x :: xs, [] => by simp [ltN]
  | x :: xs, y :: ys => by
    rw [List.map_cons, List.map_cons, List.cons_lt_cons_iff, ltN, ltN_lt xs ys]
    constructor
    · rintro (h | ⟨rfl, h⟩)
      · exact .inl (by omega)
      · exact .inr ⟨rfl, h⟩
    · rintro (h | ⟨e, h⟩)
      · exact .inl (by omega)
      · exact .inr ⟨by omega, h⟩
theorem eqv_ints : ∀ xs ys : List Int, PyData.eqvAll (xs.map .int) (ys.map .int) = decide (xs = ys)
  | [], [] => by simp [PyData.eqvAll]
  | [], y :: ys => by simp [PyData.eqvAll]
  | x :: xs, [] => by simp [PyData.eqvAll]
  | x :: xs, y :: ys => by
    rw [List.map_cons, List.map_cons, PyData.eqvAll, eqv_ints xs ys, PyData.eqv]
    by_cases h : x = y <;> by_cases k : xs = ys <;> simp [h, k]
theorem lt_encP (a b : NT) : PySem.W.dataLt (encP a) (encP b) = true ↔ ltP2 a b := by
  unfold encP
  rw [PySem.W.dataLt_pair (by simp [PySem.W.alike]) (by simp [-List.map_map, PySem.W.alike, PySem.W.alike_ints]), PySem.W.dataLt_int, PySem.W.dataLt_tuple]
  have e := PySem.W.dataLt_ints (a.2.map fun l => ((l : Nat) : Int)) (b.2.map fun l => ((l : Nat) : Int))
  unfold PySem.W.rowLt at e
  rw [e]
  unfold ltP2
  rw [ltN_lt]
  simp only [PyData.eqv, beq_iff_eq, eqv_ints]
  by_cases h1 : (a.1 : Int) = (b.1 : Int)
  · rw [if_pos h1]
    by_cases h2 : (a.2.map fun l => ((l : Nat) : Int)) = (b.2.map fun l => ((l : Nat) : Int))
    · rw [decide_eq_true h2, if_pos rfl]
      constructor
      · intro h; cases h
      · rintro (h | ⟨_, h⟩)
        · omega
        · rw [h2] at h
          exact absurd h (List.lt_irrefl _)
    · rw [decide_eq_false h2, if_neg (by decide), decide_eq_true_eq]
      constructor
      · exact fun h => .inr ⟨by omega, h⟩
      · rintro (h | ⟨_, h⟩)
        · omega
        · exact h
  · rw [if_neg h1, decide_eq_true_eq]
    constructor
    · exact fun h => .inl (by omega)
    · rintro (h | ⟨h, _⟩)
      · omega
      · omega
theorem ltP2_tri (a b : NT) : ltP2 a b ∨ a = b ∨ ltP2 b a := by
  obtain ⟨i, xs⟩ := a
  obtain ⟨j, ys⟩ := b
  rcases Nat.lt_trichotomy i j with h | rfl | h
  · exact .inl (.inl h)
  · rcases ltN_tri xs ys with h | rfl | h
    · exact .inl (.inr ⟨rfl, h⟩)
    · exact .inr (.inl rfl)
    · exact .inr (.inr (.inr ⟨rfl, h⟩))
  · exact .inr (.inr (.inl h))
theorem ltP2_trans {a b c : NT} (h : ltP2 a b) (k : ltP2 b c) : ltP2 a c := by
  rcases h with h | ⟨e, h⟩ <;> rcases k with k | ⟨e', k⟩
  · exact .inl (by omega)
  · exact .inl (by omega)
  · exact .inl (by omega)
  · exact .inr ⟨by omega, ltN_trans h k⟩
theorem ltP2_irr (a : NT) : ¬ ltP2 a a := by
  rintro (h | ⟨_, h⟩)
  · omega
  · exact ltN_irr _ h
theorem sortedP_eq : ∀ {xs ys : List NT}, xs.Pairwise ltP2 → ys.Pairwise ltP2 → (∀ x, x ∈ xs ↔ x ∈ ys) → xs = ys
  | [], [], _, _, _ => rfl
  | [], y :: ys, _, _, h => by have := (h y).mpr List.mem_cons_self; cases this
  | x :: xs, [], _, _, h => by have := (h x).mp List.mem_cons_self; cases this
  | x :: xs, y :: ys, h1, h2, h => by
    rw [List.pairwise_cons] at h1 h2
    have e : x = y := by
      rcases List.mem_cons.mp ((h x).mp List.mem_cons_self) with e | m
      · exact e
      · rcases List.mem_cons.mp ((h y).mpr List.mem_cons_self) with e | m'
        · exact e.symm
        · exact (ltP2_irr x (ltP2_trans (h1.1 y m') (h2.1 x m))).elim
    subst e
    have h' : ∀ w, w ∈ xs ↔ w ∈ ys := fun w => by
      constructor
      · intro m
        rcases List.mem_cons.mp ((h w).mp (List.mem_cons_of_mem _ m)) with rfl | m'
        · exact (ltP2_irr w (h1.1 w m)).elim
        · exact m'
      · intro m
        rcases List.mem_cons.mp ((h w).mpr (List.mem_cons_of_mem _ m)) with rfl | m'
        · exact (ltP2_irr w (h2.1 w m)).elim
        · exact m'
    rw [sortedP_eq h1.2 h2.2 h']
def leP : NT → NT → Bool := PySem.W.dataLe false encP
theorem leP_iff (a b : NT) : leP a b = true ↔ ¬ ltP2 b a := by
  unfold leP
  rw [PySem.W.dataLe_eq]
  show (!PySem.W.dataLt (encP b) (encP a)) = true ↔ _
  rw [← lt_encP]
  cases PySem.W.dataLt (encP b) (encP a) <;> simp
/-- a list of different pairs is sorted in one way -/
theorem sort_is {bs cs : List NT} (nd : bs.Nodup) (hc : cs.Pairwise ltP2) (h : ∀ x, x ∈ bs ↔ x ∈ cs) : bs.mergeSort leP = cs := by
  have hp := List.mergeSort_perm bs leP
  have hs : (bs.mergeSort leP).Pairwise fun a b => leP a b = true := List.pairwise_mergeSort (fun a b c h1 h2 => by
    rw [leP_iff] at *
    intro h
    rcases ltP2_tri a b with q | rfl | q
    · exact h2 (ltP2_trans h q)
    · exact h2 h
    · exact h1 q) (fun a b => by
    rw [Bool.or_eq_true, leP_iff, leP_iff]
    rcases ltP2_tri a b with q | rfl | q
    · exact .inl fun r => ltP2_irr a (ltP2_trans q r)
    · exact .inl (ltP2_irr a)
    · exact .inr fun r => ltP2_irr a (ltP2_trans r q)) bs
  have nd2 : (bs.mergeSort leP).Nodup := hp.nodup_iff.mpr nd
  refine sortedP_eq ?_ hc fun x => ?_
  · refine (List.pairwise_and_iff.mpr ⟨hs, nd2⟩).imp fun {a b} h => ?_
    rcases ltP2_tri a b with q | q | q
    · exact q
    · exact absurd q h.2
    · exact absurd q ((leP_iff a b).mp h.1)
  · rw [hp.mem_iff]
    exact h x
theorem u100_of {k : Nat} {A : Around} (r : Room k A) : A.units + 100 < cLine := by have := r.un; omega
def rSortPT (K : PySem.W.Frag) : List V → Hp → VK → Prop := fun vs H Q => ∃ (Z : Zone) (a : Addr) (xs : List V) (bs : List NT), vs = [V.ref a] ∧ SqL K H a xs ∧ AtAll Z H (bs.map thP) xs ∧ ∀ ys p, AtAll Z H ((bs.mergeSort leP).map thP) ys → H p = none → Q (.ref p) (upd H p (.lst ys))
section
variable {X : Cx}
open PySem.W in
theorem cr_sortPT (hu : X.A.units + 100 < cLine) : CallR X (.builtin "sorted") (rSortPT X.K) := by
  intro pins s σ H vs us Q I r h
  obtain ⟨Z, a, xs, bs, rfl, hs, hx, q⟩ := h
  obtain ⟨its, rv, hl, hz⟩ := I.list hs
  obtain ⟨u, rfl, ru⟩ := vals1 r
  obtain rfl : u = Value.ref a := ru
  have isref : ∀ {bs : List NT} {xs : List V}, AtAll Z H (bs.map thP) xs → ∀ x ∈ xs, ∃ a, x = V.ref a := by
    intro bs
    induction bs with
    | nil => intro xs h x m; cases h; cases m
    | cons b r ih =>
      intro xs h x m
      obtain ⟨u, us, rfl, h1, h2⟩ := h
      rcases List.mem_cons.mp m with rfl | m
      · obtain ⟨a, _, rfl, _⟩ := h1
        exact ⟨a, rfl⟩
      · exact ih h2 x m
  obtain ⟨e1, e2⟩ := refs_back rv (isref hx)
  have each : ∀ {bs : List NT} {xs : List V} {its : List Value}, AtAll Z H (bs.map thP) xs → Vals xs its → EachIs (fun (v : Value) b => At Z H (thP b) (backV v) ∧ ∃ a, v = Value.ref a) its bs := by
    intro bs
    induction bs with
    | nil => intro xs its h r; cases h; cases r; exact .nil
    | cons b r ih =>
      intro xs its h rr
      obtain ⟨u, us, rfl, h1, h2⟩ := h
      cases rr with
      | cons r1 r2 =>
        refine .cons ?_ (ih h2 r2)
        obtain ⟨a, w, rfl, hh⟩ := h1
        obtain rfl : _ = Value.ref a := r1
        exact ⟨⟨a, w, rfl, hh⟩, a, rfl⟩
  have E := each hx rv
  have er : EachIs (fun v b => ∃ as, Reads s.heap v (encP b) as) its bs := E.mono fun v b h => by
    obtain ⟨h1, a, rfl⟩ := h
    have d := At.dp (K := X.K) _ _ h1 (lay_thP b)
    rw [py_thP] at d
    exact Dp.reads I _ _ _ d rfl
  refine sorted_data hl.isList E er (AllAlike.of fun b b' => by unfold encP; simp [-List.map_map, alike, alikeAll, alike_ints]) (Sortable.tuples fun b => ⟨_, _, rfl⟩) (by rw [← E.length, ← rv.length]; exact hz) (fun b _ => by have := depth_encP b; omega) fun out ho eo => ?_
  obtain ⟨n, hn⟩ := sortedAll_at s.heap its out.toArray
  have back : ∀ {out : List Value} {bs : List NT}, EachIs (fun (v : Value) b => At Z H (thP b) (backV v) ∧ ∃ a, v = Value.ref a) out bs → AtAll Z H (bs.map thP) (out.map backV) ∧ ∀ u ∈ out, ∃ a, u = Value.ref a := by
    intro out bs h
    induction h with
    | nil => exact ⟨.nil, fun u m => nomatch m⟩
    | cons h1 _ ih =>
      refine ⟨.cons h1.1 ih.1, fun u m => ?_⟩
      rcases List.mem_cons.mp m with rfl | m
      · exact h1.2
      · exact ih.2 u m
  obtain ⟨b1, b2⟩ := back eo
  have hd : s.heap.objs.size ≤ s.heap.objs.size + 1 := Nat.le_succ _
  refine ⟨.ref (s.heap.objs.size + 1), upd H (s.heap.objs.size + 1) (.lst (out.map backV)), I.laid (t' := s.toks) (fun b o e => sortedAll_old e) hd ⟨?_, out, n, vals_back b2, hn⟩, rfl, q _ _ b1 (I.hok.fresh hd)⟩
  rw [List.length_map, ho, ← E.length, ← rv.length]
  exact hz
end
end KL
end
section
set_option maxHeartbeats 1000000
namespace KL
open PySem PySem.Spec PyProof.Rows L2
/-! ### all texts up to a length, found one behind another -/
def wkN (R : List Th) : Nat → Nat → List Nat → Option (Nat × Nat)
  | s, b, [] => some (b, s)
  | s, b, l :: ls => match stp R s l with
    | some (m, t) => wkN R t (b + m) ls
    | none => none
theorem wkN_app (R : List Th) : ∀ (ls : List Nat) (s b l f u : Nat), wkN R s b ls = some (f, u) → wkN R s b (ls ++ [l]) = match stp R u l with | some (m, t) => some (f + m, t) | none => none
  | [], s, b, l, f, u, h => by
    cases h
    show wkN R s b [l] = _
    rw [wkN]
    cases stp R s l <;> rfl
  | x :: ls, s, b, l, f, u, h => by
    rw [wkN] at h
    rw [List.cons_append, wkN]
    cases e : stp R s x with
    | none => rw [e] at h; cases h
    | some q =>
      obtain ⟨m, t⟩ := q
      rw [e] at h
      exact wkN_app R ls t (b + m) l f u h
theorem lnN_wk (R : List Th) : ∀ (ls ks : List Nat) (s b f u : Nat), wkN R s b ls = some (f, u) → (lnN R s (ls ++ ks)).map (b + ·) = (lnN R u ks).map (f + ·)
  | [], ks, s, b, f, u, h => by cases h; rfl
  | x :: ls, ks, s, b, f, u, h => by
    rw [wkN] at h
    rw [List.cons_append, lnN]
    cases e : stp R s x with
    | none => rw [e] at h; cases h
    | some q =>
      obtain ⟨m, t⟩ := q
      rw [e] at h
      have ih := lnN_wk R ls ks t (b + m) f u h
      dsimp only
      rw [Option.map_map, ← ih]
      congr 1
      funext c
      show b + (m + c) = b + m + c
      omega
theorem finN_pos {z : Int} {R : List Th} (ok : MOk z R) {s e : Nat} (h : finN R s = some e) : 1 ≤ e := by
  unfold finN at h
  by_cases hs : s < R.length
  · obtain ⟨en, ss, er, h1, _⟩ := ok.row hs
    rw [er] at h
    rcases h1 with rfl | ⟨i, rfl, i1, _⟩
    · cases h
    · have : some i.toNat = some e := h
      injection this with this
      omega
  · rw [List.getElem?_eq_none (by omega)] at h
    cases h
theorem lnN_pos {z : Int} {R : List Th} (ok : MOk z R) : ∀ (ls : List Nat) {s b : Nat}, lnN R s ls = some b → 1 ≤ b
  | [], s, b, h => finN_pos ok h
  | l :: ls, s, b, h => by
    rw [lnN] at h
    cases e : stp R s l with
    | none => rw [e] at h; cases h
    | some q =>
      obtain ⟨m, t⟩ := q
      rw [e] at h
      obtain ⟨c, hc, hb⟩ := Option.map_eq_some_iff.mp h
      have := lnN_pos ok ls hc
      omega
/-- how far, where, by which text -/
abbrev NI := Nat × Nat × List Nat
def kidN (R : List Th) (most : Nat) (it : NI) (l : Nat) : Option NI := match stp R it.2.1 l with
  | some (m, t) => if it.1 + m < most then some (it.1 + m, t, it.2.2 ++ [l]) else none
  | none => none
def kidsN (R : List Th) (most : Nat) (it : NI) (n : Nat) : List NI := (List.range n).filterMap (kidN R most it)
def endsN (R : List Th) (most : Nat) (it : NI) : List NT := match finN R it.2.1 with
  | some e => if it.1 + e ≤ most then [(it.1 + e, it.2.2)] else []
  | none => []
theorem kidsN_succ (R : List Th) (most : Nat) (it : NI) (n : Nat) : kidsN R most it (n + 1) = kidsN R most it n ++ (kidN R most it n).toList := by
  unfold kidsN
  rw [List.range_succ, List.filterMap_append]
  congr 1
theorem kidsN_len (R : List Th) (most : Nat) (it : NI) (n : Nat) : (kidsN R most it n).length ≤ n := by
  have := List.length_filterMap_le (kidN R most it) (List.range n)
  rw [List.length_range] at this
  exact this
theorem mem_kids {R : List Th} {most n : Nat} {it k : NI} (h : k ∈ kidsN R most it n) : ∃ l m t, l < n ∧ stp R it.2.1 l = some (m, t) ∧ it.1 + m < most ∧ k = (it.1 + m, t, it.2.2 ++ [l]) := by
  obtain ⟨l, ml, hl⟩ := List.mem_filterMap.mp h
  unfold kidN at hl
  cases e : stp R it.2.1 l with
  | none => rw [e] at hl; cases hl
  | some q =>
    obtain ⟨m, t⟩ := q
    rw [e] at hl
    dsimp only at hl
    split at hl
    · next hm => exact ⟨l, m, t, List.mem_range.mp ml, e, hm, (Option.some.inj hl).symm⟩
    · cases hl
theorem pre_snoc {xs ys : List Nat} {l : Nat} (h : xs <+: ys ++ [l]) : xs <+: ys ∨ xs = ys ++ [l] := by
  rcases List.prefix_concat_iff.mp h with h | h
  · exact .inr h
  · exact .inl h
theorem pre_of_snoc {xs ys : List Nat} {l : Nat} (h : xs ++ [l] <+: ys) : xs <+: ys := (List.prefix_append xs [l]).trans h
structure DF (R : List Th) (z most : Nat) (fl : List NT) (ll : List NI) : Prop where
  fnd : ∀ p ∈ fl, lnN R 0 p.2 = some p.1 ∧ p.1 ≤ most ∧ ∀ l ∈ p.2, l < z
  wk : ∀ it ∈ ll, wkN R 0 0 it.2.2 = some (it.1, it.2.1) ∧ (∀ l ∈ it.2.2, l < z) ∧ it.2.1 < R.length
  all : ∀ ls b, lnN R 0 ls = some b → b ≤ most → (∀ l ∈ ls, l < z) → (b, ls) ∈ fl ∨ ∃ it ∈ ll, it.2.2 <+: ls
  nd : fl.Nodup
  off : ∀ p ∈ fl, ∀ it ∈ ll, ¬ it.2.2 <+: p.2
  apart : ll.Pairwise fun a b => ¬ a.2.2 <+: b.2.2 ∧ ¬ b.2.2 <+: a.2.2
theorem DF.start {zi : Int} {R : List Th} (ok : MOk zi R) (most : Nat) : DF R zi.toNat most [] [(0, 0, [])] where
  fnd := fun p h => nomatch h
  wk := fun it h => by
    rw [List.mem_singleton.mp h]
    exact ⟨rfl, (fun l h => nomatch h), ok.n1⟩
  all := fun ls b _ _ _ => .inr ⟨_, List.mem_singleton.mpr rfl, List.nil_prefix⟩
  nd := List.nodup_nil
  off := fun p h => nomatch h
  apart := List.pairwise_singleton _ _
theorem DF.turn {zi : Int} {R : List Th} (ok : MOk zi R) {most : Nat} {fl : List NT} {ll : List NI} {it : NI} (h : DF R zi.toNat most fl (ll ++ [it])) : DF R zi.toNat most (fl ++ endsN R most it) (ll ++ kidsN R most it zi.toNat) := by
  obtain ⟨f, s, tx⟩ := it
  have hit := h.wk (f, s, tx) (by simp)
  obtain ⟨w1, w2, w3⟩ := hit
  have w1 : wkN R 0 0 tx = some (f, s) := w1
  have w2 : ∀ l ∈ tx, l < zi.toNat := w2
  have w3 : s < R.length := w3
  have ap := List.pairwise_append.mp h.apart
  have apL : ∀ a ∈ ll, ¬ a.2.2 <+: tx ∧ ¬ tx <+: a.2.2 := fun a m => ap.2.2 a m (f, s, tx) (by simp)
  have offI : ∀ p ∈ fl, ¬ tx <+: p.2 := fun p m => h.off p m (f, s, tx) (by simp)
  have len0 : ∀ ks, lnN R 0 (tx ++ ks) = (lnN R s ks).map (f + ·) := fun ks => by
    have := lnN_wk R tx ks 0 0 f s w1
    rw [show (fun x => 0 + x) = id from funext fun x => Nat.zero_add x, Option.map_id] at this
    exact this
  have mem_ends : ∀ p, p ∈ endsN R most (f, s, tx) → ∃ e, finN R s = some e ∧ f + e ≤ most ∧ p = (f + e, tx) := fun p m => by
    unfold endsN at m
    dsimp only at m
    cases e : finN R s with
    | none => rw [e] at m; cases m
    | some e' =>
      rw [e] at m
      dsimp only at m
      split at m
      · next hm => exact ⟨e', rfl, hm, List.mem_singleton.mp m⟩
      · cases m
  refine ⟨fun p m => ?_, fun k m => ?_, fun ls b hb hm hl => ?_, ?_, fun p mp k mk => ?_, ?_⟩
  · rcases List.mem_append.mp m with m | m
    · exact h.fnd p m
    · obtain ⟨e, h1, h2, rfl⟩ := mem_ends p m
      refine ⟨?_, h2, w2⟩
      have := len0 []
      rw [List.append_nil] at this
      rw [this, lnN, h1]
      rfl
  · rcases List.mem_append.mp m with m | m
    · exact h.wk k (List.mem_append_left _ m)
    · obtain ⟨l, m2, t, h1, h2, h3, rfl⟩ := mem_kids m
      refine ⟨?_, fun x mx => ?_, ?_⟩
      · rw [wkN_app R tx 0 0 l f s w1, h2]
      · rcases List.mem_append.mp mx with mx | mx
        · exact w2 x mx
        · rw [List.mem_singleton.mp mx]; exact h1
      · have : stp R s l = some (m2, t) := h2
        unfold stp at this
        rcases stepAt_is ok s l with e | ⟨d, t', e, d0, _, t0, t1⟩
        · rw [e] at this; cases this
        · rw [e] at this
          have := Option.some.inj this
          injection this with _ this
          show t < R.length
          omega
  · rcases h.all ls b hb hm hl with q | ⟨k, mk, hk⟩
    · exact .inl (List.mem_append_left _ q)
    rcases List.mem_append.mp mk with mk | mk
    · exact .inr ⟨k, List.mem_append_left _ mk, hk⟩
    rw [List.mem_singleton.mp mk] at hk
    obtain ⟨ks, rfl⟩ := hk
    have hb' := hb
    rw [len0 ks] at hb'
    obtain ⟨c, hc, hbc⟩ := Option.map_eq_some_iff.mp hb'
    have hbc : f + c = b := hbc
    cases ks with
    | nil =>
      left
      refine List.mem_append_right _ ?_
      rw [lnN] at hc
      unfold endsN
      dsimp only
      rw [hc]
      dsimp only
      rw [if_pos (by omega), List.append_nil, hbc]
      exact List.mem_singleton.mpr rfl
    | cons l ks =>
      right
      rw [lnN] at hc
      cases e : stp R s l with
      | none => rw [e] at hc; cases hc
      | some q =>
        obtain ⟨m, t⟩ := q
        rw [e] at hc
        dsimp only at hc
        obtain ⟨c', hc', hcc⟩ := Option.map_eq_some_iff.mp hc
        have hcc : m + c' = c := hcc
        have := lnN_pos ok ks hc'
        refine ⟨(f + m, t, tx ++ [l]), List.mem_append_right _ (List.mem_filterMap.mpr ⟨l, List.mem_range.mpr (hl l (by simp)), ?_⟩), ⟨ks, by simp⟩⟩
        unfold kidN
        dsimp only
        rw [e]
        dsimp only
        rw [if_pos (by omega)]
  · refine List.nodup_append.mpr ⟨h.nd, ?_, fun a ma b mb e => ?_⟩
    · unfold endsN
      dsimp only
      cases finN R s with
      | none => simp
      | some e =>
        dsimp only
        split <;> simp
    · obtain ⟨e', _, _, rfl⟩ := mem_ends b mb
      subst e
      exact offI _ ma (List.prefix_refl _)
  · rcases List.mem_append.mp mp with mp | mp <;> rcases List.mem_append.mp mk with mk | mk
    · exact h.off p mp k (List.mem_append_left _ mk)
    · obtain ⟨l, m2, t, h1, h2, h3, rfl⟩ := mem_kids mk
      exact fun hp => offI p mp (pre_of_snoc hp)
    · obtain ⟨e', _, _, rfl⟩ := mem_ends p mp
      exact (apL k mk).1
    · obtain ⟨e', _, _, rfl⟩ := mem_ends p mp
      obtain ⟨l, m2, t, h1, h2, h3, rfl⟩ := mem_kids mk
      intro hp
      have := hp.length_le
      simp at this
      omega
  · refine List.pairwise_append.mpr ⟨ap.1, ?_, fun a ma k mk => ?_⟩
    · unfold kidsN
      refine List.pairwise_filterMap.mpr ((List.pairwise_lt_range (n := zi.toNat)).imp fun {l l'} hll k hk k' hk' => ?_)
      have m1 : ∃ m t, k = (f + m, t, tx ++ [l]) := by
        unfold kidN at hk
        dsimp only at hk
        cases e : stp R s l with
        | none => rw [e] at hk; cases hk
        | some q =>
          rw [e] at hk
          dsimp only at hk
          split at hk
          · exact ⟨q.1, q.2, (Option.some.inj hk).symm⟩
          · cases hk
      have m2 : ∃ m t, k' = (f + m, t, tx ++ [l']) := by
        unfold kidN at hk'
        dsimp only at hk'
        cases e : stp R s l' with
        | none => rw [e] at hk'; cases hk'
        | some q =>
          rw [e] at hk'
          dsimp only at hk'
          split at hk'
          · exact ⟨q.1, q.2, (Option.some.inj hk').symm⟩
          · cases hk'
      obtain ⟨_, _, rfl⟩ := m1
      obtain ⟨_, _, rfl⟩ := m2
      have ne : ∀ {a b : Nat}, a ≠ b → ¬ tx ++ [a] <+: tx ++ [b] := fun hab hp => by
        have := hp.eq_of_length (by simp)
        have := List.append_cancel_left this
        injection this with this
        exact hab this
      exact ⟨ne (by omega), ne (by omega)⟩
    · obtain ⟨l, m2, t, h1, h2, h3, rfl⟩ := mem_kids mk
      refine ⟨fun hp => ?_, fun hp => (apL a ma).2 (pre_of_snoc hp)⟩
      rcases pre_snoc hp with q | q
      · exact (apL a ma).1 q
      · exact (apL a ma).2 (by rw [q]; exact List.prefix_append _ _)
/-- all texts up to most, in order -/
def tcat (R : List Th) (z most : Nat) : List NT := (List.range (most + 1)).flatMap fun b => (tx R z b 0).map fun ls => (b, ls)
theorem DF.done {zi : Int} {R : List Th} (ok : MOk zi R) (nf : NoR R) {most : Nat} {fl : List NT} (h : DF R zi.toNat most fl []) : fl.mergeSort leP = tcat R zi.toNat most := by
  refine sort_is h.nd (pw_flat _ (fun b _ => ?_) (fun b c hbc _ x mx y my => ?_)) fun p => ?_
  · exact List.Pairwise.map _ (fun a b h => .inr ⟨rfl, h⟩) (tx_sorted R zi.toNat b 0)
  · obtain ⟨_, _, rfl⟩ := List.mem_map.mp mx
    obtain ⟨_, _, rfl⟩ := List.mem_map.mp my
    exact .inl hbc
  · obtain ⟨b, ls⟩ := p
    unfold tcat
    rw [List.mem_flatMap]
    constructor
    · intro m
      obtain ⟨h1, h2, h3⟩ := h.fnd _ m
      exact ⟨b, List.mem_range.mpr (by have : b ≤ most := h2; omega), List.mem_map.mpr ⟨ls, (mem_tx ok nf).mpr ⟨h3, h1⟩, rfl⟩⟩
    · rintro ⟨b', mb, m⟩
      obtain ⟨ls', ml, e⟩ := List.mem_map.mp m
      injection e with e1 e2
      subst e1 e2
      obtain ⟨h1, h2⟩ := (mem_tx ok nf).mp ml
      rcases h.all ls' b' h2 (by have := List.mem_range.mp mb; omega) h1 with q | ⟨_, q, _⟩
      · exact q
      · cases q
end KL
end
section
set_option maxHeartbeats 1000000
namespace KL
open PySem PySem.Spec PyProof.Rows L2
def thI (it : NI) : Th := .tup [.int (it.1 : Nat), .int (it.2.1 : Nat), .tup (thN it.2.2)]
theorem AtAll.unsnoc {Z : Zone} {H : Hp} {d : Th} : ∀ {ds : List Th} {vs : List V}, AtAll Z H (ds ++ [d]) vs → ∃ vs' v, vs = vs' ++ [v] ∧ AtAll Z H ds vs' ∧ At Z H d v
  | [], vs, h => by
    obtain ⟨u, us, rfl, h1, h2⟩ := h
    cases (show us = [] from h2)
    exact ⟨[], u, rfl, .nil, h1⟩
  | x :: xs, vs, h => by
    obtain ⟨u, us, rfl, h1, h2⟩ := h
    obtain ⟨vs', v, rfl, h3, h4⟩ := AtAll.unsnoc h2
    exact ⟨u :: vs', v, rfl, .cons h1 h3, h4⟩
theorem dpL_thN : ∀ ls : List Nat, dpL (thN ls) = 0
  | [] => rfl
  | l :: ls => by
    show max (dp (.int (l : Nat))) (dpL (thN ls)) = 0
    rw [dpL_thN ls]
    rfl
theorem dp_thI (it : NI) : dp (thI it) ≤ 2 := by
  unfold thI
  simp only [dp, dpL, dpL_thN]
  omega
theorem lay_thN (ls : List Nat) : (py (.tup (thN ls))).canLay0 = true := by
  rw [py, pyL_thN]
  simp only [PyData.canLay0, lay_ints]
theorem lay_thI (it : NI) : (py (thI it)).canLay0 = true := by
  unfold thI
  rw [py, pyL, pyL, pyL, pyL, py, py]
  simp only [PyData.canLay0, PyData.canLayAll0, lay_thN, Bool.and_self]
theorem lay_items : ∀ ll : List NI, (py (.lst (ll.map thI))).canLay0 = true
  | [] => by rw [List.map_nil, py, pyL]; rfl
  | it :: ll => by
    have h := lay_items ll
    rw [py] at h ⊢
    simp only [PyData.canLay0] at h ⊢
    rw [List.map_cons, pyL]
    simp only [PyData.canLayAll0, lay_thI, h, Bool.and_self]
theorem dp_items (ll : List NI) : dp (.lst (ll.map thI)) ≤ 64 := by
  show dpL (ll.map thI) + 1 ≤ 64
  have : dpL (ll.map thI) ≤ 2 := by
    induction ll with
    | nil => exact Nat.zero_le _
    | cons it r ih =>
      show max (dp (thI it)) (dpL (r.map thI)) ≤ 2
      have := dp_thI it
      omega
  omega
theorem eqv_items (ll : List NI) : PyData.eqv (py (.lst (ll.map thI))) (py (.lst [])) = decide (ll = []) := by
  cases ll with
  | nil => rw [List.map_nil]; exact SeqAt.eqv_refl _ (lay_items [])
  | cons it r =>
    rw [List.map_cons, py, py, pyL, pyL]
    simp [PyData.eqv, PyData.eqvAll]
def spTexts : Sp := fun vs H Q _ => ∃ (Z : Zone) (u : V) (z : Int) (R : List Th) (most much : Nat), vs = [u, .int (most : Nat), .int (much : Nat)] ∧ At Z H (.tup [.int z, .tup R]) u ∧ MOk z R ∧ NoR R ∧ most ≤ 4000 ∧ much ≤ 100000 ∧ (∀ H', Same H H' → Q .non H') ∧
  ∀ (D : Addr) (vs2 : List V) H', Same H H' → H D = none → H' D = some (.lst vs2) → AtAll (Trk H) H' ((tcat R z.toNat most).map thP) vs2 → (tcat R z.toNat most).length ≤ much → Q (.ref D) H'
section
variable {P : Program} {w : World} {K : PySem.W.Frag} {mg : Str → Option Value} {base : Heap} {k : Nat}
end
end KL
end
section
set_option maxHeartbeats 1000000
namespace KL
open PySem PySem.Spec PyProof.Rows L2
theorem nin4 {n : Nat} (h : n ≤ 4000) : inn 0 4000 (.int (n : Nat)) = true := by
  show (decide ((0 : Int) ≤ n) && decide ((n : Int) ≤ 4000)) = true
  rw [decide_eq_true (by omega), decide_eq_true (by omega)]; rfl
section
variable {CM CN CI CT : Addr} {Z Z2 : Zone} {H : Hp} {Q : VK} {E : XK} {u v : V} {z : Int} {rows : List Th} {n : Nat}
theorem use_many (hu : At Z H (.tup [.int z, .tup rows]) u) (ok : MOk z rows) (nf : NoR (trimL z rows)) (hn : n ≤ 4000) (q : ∀ H', Same H H' → Q (nV (ctN (trimL z rows) z.toNat n 0)) H') : spMany CM CN CI [u, .int (n : Nat)] H Q E := by
  refine ⟨Z, u, _, _, .int (n : Nat), rfl, hu, rfl, ok.short, rfl, fun z' rows' b e1 ok' e2 _ _ H2 s2 => ?_, fun z' rows' e1 ok' _ h => ?_, fun _ h => absurd ((nin4 hn).symm.trans h) (by decide), fun mb => absurd (mb.symm.trans ok.mach) (by decide)⟩
  · obtain ⟨rfl, rfl⟩ := mach_inj e1
    injection e2 with e2
    obtain rfl : n = b := by omega
    exact q H2 s2
  · obtain ⟨rfl, rfl⟩ := mach_inj e1
    exact absurd nf h
theorem use_text_at {pl : Nat} {ip : Int} {ls : List Nat} (hip : ip = (pl : Nat)) (hu : At Z H (.tup [.int z, .tup rows]) u) (ok : MOk z rows) (nf : NoR (trimL z rows)) (hn : n ≤ 4000) (eget : (tx (trimL z rows) z.toNat n 0)[pl]? = some ls)
    (q : ∀ y H', Same H H' → At (Trk H) H' (.tup (thN ls)) y → Q y H') : spTextAt CM CN CI [u, .int (n : Nat), .int ip] H Q E := by
  subst hip
  refine ⟨Z, u, _, _, _, .int (n : Nat), .int (pl : Nat), rfl, hu, rfl, rfl, ok.short, rfl, rfl, fun z' rows' b pl' ls' e1 ok' e2 _ _ e3 eg y G2 s2 hy => ?_, fun z' rows' b e1 ok' e2 _ _ hbad => ?_, fun z' rows' e1 ok' _ h => ?_, fun _ h => absurd ((nin4 hn).symm.trans h) (by decide), fun mb => absurd (mb.symm.trans ok.mach) (by decide)⟩
  · obtain ⟨rfl, rfl⟩ := mach_inj e1
    injection e2 with e2
    obtain rfl : n = b := by omega
    injection e3 with e3
    obtain rfl : pl = pl' := by omega
    rw [eget] at eg
    injection eg with eg
    subst eg
    exact q y G2 s2 hy
  · obtain ⟨rfl, rfl⟩ := mach_inj e1
    injection e2 with e2
    obtain rfl : n = b := by omega
    have h1 := (List.getElem?_eq_some_iff.mp eget).1
    have : inn 0 ((ctN (trimL z rows) z.toNat n 0 : Nat) - 1 : Int) (.int (pl : Nat)) = true := by
      show (decide ((0 : Int) ≤ pl) && decide ((pl : Int) ≤ _)) = true
      rw [decide_eq_true (by omega), decide_eq_true (by unfold ctN; omega)]; rfl
    exact absurd (this.symm.trans hbad) (by decide)
  · obtain ⟨rfl, rfl⟩ := mach_inj e1
    exact absurd nf h
theorem tx_lets {ls : List Nat} (hls : ∀ l ∈ ls, l < z.toNat) : Lets z (thN ls) := fun l m => by
  obtain ⟨x, mx, rfl⟩ := List.mem_map.mp m
  have := hls x mx
  exact ⟨_, rfl, by omega, by omega⟩
theorem tx_short (okT : MOk z rows) (nf : NoR rows) (hn : n ≤ 4000) {s : Nat} {ls : List Nat} (hln : lnN rows s ls = some n) : ls.length ≤ 1000000 := by
  have h1 := lnN_bound okT nf hln
  have : rows.length * n ≤ 30 * 4000 := Nat.mul_le_mul okT.n30 hn
  omega
theorem use_place_of {pl : Nat} {ls : List Nat} (hu : At Z H (.tup [.int z, .tup rows]) u) (hv : At Z2 H (.tup (thN ls)) v) (ok : MOk z rows) (nf : NoR (trimL z rows)) (hn : n ≤ 4000) (eget : (tx (trimL z rows) z.toNat n 0)[pl]? = some ls)
    (q : ∀ H', Same H H' → Q (nV pl) H') : spPlaceOf CM CT CI [u, v] H Q E := by
  have okT := trimL_ok ok
  obtain ⟨hls, hln⟩ := (mem_tx okT nf).mp (List.mem_of_getElem? eget)
  have hLets := tx_lets hls
  have hlT : lenT rows (thN ls) = some ((n : Nat) : Int) := by rw [lenT_trim ok, hln]; rfl
  have shT : shortT (.tup (thN ls)) = true := hLets.short (by rw [thN_len]; exact tx_short okT nf hn hln)
  refine ⟨fun _ => False, u, v, _, _, rfl, hu.any, hv.any, ok.short, shT, fun z' rows' ls' b e1 ok' e2 _ el _ => ?_, fun z' rows' ls' b e1 ok' e2 _ el _ _ H' s' => ?_, fun z' rows' ls' b e1 ok' _ _ _ h => ?_, fun z' rows' e1 ok' h => ?_, fun mb => absurd (mb.symm.trans ok.mach) (by decide)⟩
  · obtain ⟨rfl, rfl⟩ := mach_inj e1
    injection e2 with e2
    subst e2
    rw [hlT] at el
    injection el with el
    omega
  · obtain ⟨rfl, rfl⟩ := mach_inj e1
    injection e2 with e2
    obtain rfl := thN_inj e2
    rw [hln] at el
    injection el with el
    subst el
    rw [tx_plc okT nf eget]
    exact q H' s'
  · obtain ⟨rfl, rfl⟩ := mach_inj e1
    exact absurd nf h
  · obtain ⟨rfl, rfl⟩ := mach_inj e1
    rcases h with h | ⟨ls', e2, h⟩
    · exact absurd (h.symm.trans hLets.text) (by decide)
    · injection e2 with e2
      subst e2
      rw [hlT] at h
      cases h
theorem filter_tcat (R : List Th) (zn : Nat) {most b : Nat} (hb : b ≤ most) : ((tcat R zn most).filter fun p => decide (p.1 = b)).map (·.2) = tx R zn b 0 := by
  unfold tcat
  have key : ∀ k : Nat, (((List.range k).flatMap fun b => (tx R zn b 0).map fun ls => (b, ls)).filter fun p : NT => decide (p.1 = b)).map (·.2) = if b < k then tx R zn b 0 else [] := by
    intro k
    induction k with
    | zero => rfl
    | succ k ih =>
      rw [List.range_succ, List.flatMap_append, List.filter_append, List.map_append, ih, List.flatMap_cons, List.flatMap_nil, List.append_nil]
      have h1 : (((tx R zn k 0).map fun ls => (k, ls)).filter fun p : NT => decide (p.1 = b)).map (·.2) = if k = b then tx R zn k 0 else [] := by
        by_cases h : k = b
        · rw [if_pos h, List.filter_eq_self.mpr (fun p m => by obtain ⟨_, _, rfl⟩ := List.mem_map.mp m; exact decide_eq_true h), List.map_map]
          exact List.map_id _
        · rw [if_neg h, List.filter_eq_nil_iff.mpr (fun p m => by obtain ⟨_, _, rfl⟩ := List.mem_map.mp m; simpa using h)]
          rfl
      rw [h1]
      by_cases h : k = b
      · rw [if_neg (by omega), if_pos h, if_pos (by omega), h]
        rfl
      · rw [if_neg h, List.append_nil]
        by_cases h2 : b < k
        · rw [if_pos h2, if_pos (by omega)]
        · rw [if_neg h2, if_neg (by omega)]
  rw [key, if_pos (by omega)]
theorem tcat_len (R : List Th) (zn most : Nat) : (((List.range (most + 1)).map fun b => (((ctN R zn b 0 : Nat)) : Int))).sum = (((tcat R zn most).length : Nat) : Int) := by
  unfold tcat
  generalize most + 1 = k
  induction k with
  | zero => rfl
  | succ k ih =>
    rw [List.range_succ, List.map_append, List.sum_append, ih, List.flatMap_append, List.length_append, Int.natCast_add]
    simp [ctN]
theorem lay_txs (xs : List (List Nat)) : (py (.lst (xs.map fun ls => .tup (thN ls)))).canLay0 = true := lay_lst fun x m => by
  obtain ⟨ls, _, rfl⟩ := List.mem_map.mp m
  exact lay_thN ls
theorem dp_thN (ls : List Nat) : dp (.tup (thN ls)) ≤ 64 := by
  show dpL (thN ls) + 1 ≤ 64
  rw [dpL_thN]
  decide
theorem dp_txs (xs : List (List Nat)) : dp (.lst (xs.map fun ls => .tup (thN ls))) ≤ 64 := by
  show dpL (xs.map fun ls => Th.tup (thN ls)) + 1 ≤ 64
  have : dpL (xs.map fun ls => Th.tup (thN ls)) ≤ 1 := by
    induction xs with
    | nil => exact Nat.zero_le _
    | cons x r ih =>
      show max (dp (.tup (thN x))) (dpL (r.map fun ls => Th.tup (thN ls))) ≤ 1
      have : dp (.tup (thN x)) = 1 := by show dpL (thN x) + 1 = 1; rw [dpL_thN]
      omega
  omega
theorem eqv_txs (xs : List (List Nat)) : PyData.eqv (py (.lst (xs.map fun ls => .tup (thN ls)))) (py (.lst [])) = decide (xs = []) := by
  cases xs with
  | nil => rw [List.map_nil]; exact SeqAt.eqv_refl _ (lay_txs [])
  | cons x r =>
    rw [List.map_cons, py, py, pyL, pyL]
    simp [PyData.eqv, PyData.eqvAll]
end
end KL
end
section
set_option maxHeartbeats 1000000
namespace KL
open PySem PySem.Spec PyProof.Rows L2
abbrev sc_law_lengths_rightN : List Str := ["_law_machine_here", "_law_small", "_law_is_kept", "_law_due", "_law_room", "_law_length"]
abbrev s_law_lengths_right : Stmt := topS 66
theorem sc_law_lengths_right : FnScope ["_law_machine_here", "_law_small", "_law_is_kept", "_law_due", "_law_room", "_law_length"] ["_law_machine_here", "_law_small", "_law_is_kept"] (defScope s_law_lengths_right) := ⟨rfl, rfl, rfl, by decide +kernel, rfl, by decide +kernel, by decide +kernel⟩
theorem bare_noR (z : Int) (ok : MOk z [bareRow z]) : NoR [bareRow z] := fun s hs h => by
  obtain ⟨y, my, _⟩ := fr_first h
  have := fr_st ok my
  have e : s = 0 := by
    have : s < 1 := hs
    omega
  subst e
  have : Th.tup [.int 0, .int (y : Int)] ∈ List.replicate z.toNat Th.non := this
  have := (List.mem_replicate.mp this).2
  cases this
/-- what can be kept has no ring -/
theorem pos_noR {z : Int} {rows : List Th} (ok : MOk z rows) (hp : PosR (trimL z rows)) : NoR (trimL z rows) := by
  by_cases hk : keep rows = []
  · rw [bare_trim hk]
    have := trimL_ok ok
    rw [bare_trim hk] at this
    exact bare_noR z this
  · exact (SolT.of (trimL_ok ok) hp).noR (trimL_ok ok) (trim_lvE ok hk)
theorem kept_room {z : Int} {rows : List Th} (ok : MOk z rows) (hp : PosR (trimL z rows)) (h : topT (trimL z rows) ≤ botT (trimL z rows)) (n : Nat) : ((wsum (fun b => ctN (trimL z rows) z.toNat b 0) n : Nat) : Int) ≤ 2 ^ n := by
  have okT := trimL_ok ok
  have sol := SolT.of okT hp
  have h1 := sol.roomC okT (pos_noR ok hp) n 0 okT.n1
  have h2 : Yk (eqr (trimL z rows)) (trimL z rows).length 0 (trimL z rows).length ≤ dk (eqr (trimL z rows)) (trimL z rows).length := by
    obtain ⟨p1, p2, p3⟩ := low_parts (a := Yk (eqr (trimL z rows)) (trimL z rows).length 0 (trimL z rows).length) sol.D0
    rw [← p1]
    conv => rhs; rw [← p2]
    exact Int.mul_le_mul_of_nonneg_right h (by omega)
  have D0 := sol.D0
  generalize dk (eqr (trimL z rows)) (trimL z rows).length = D at *
  have h3 : (2 : Int) ^ n * Yk (eqr (trimL z rows)) (trimL z rows).length 0 (trimL z rows).length ≤ 2 ^ n * D := Int.mul_le_mul_of_nonneg_left h2 (Int.le_of_lt (pow2_pos n))
  have h4 : D * ((wsum (fun b => ctN (trimL z rows) z.toNat b 0) n : Nat) : Int) ≤ D * 2 ^ n := by
    rw [Int.mul_comm D (2 ^ n)]
    exact Int.le_trans h1 h3
  exact Int.le_of_mul_le_mul_left h4 D0
def rmN (c : Nat → Nat) : Nat → Int
  | 0 => 1
  | i + 1 => 2 ^ i - ((wsum c i : Nat) : Int)
theorem rmN_step (c : Nat → Nat) : ∀ i : Nat, rmN c i * (if decide ((0 : Int) < ((i : Nat) : Int)) = true then 2 else 1) - ((c i : Nat) : Int) = rmN c (i + 1)
  | 0 => by
    rw [if_neg (by simp)]
    show 1 * 1 - ((c 0 : Nat) : Int) = 2 ^ 0 - ((c 0 : Nat) : Int)
    rw [Int.pow_zero]
    omega
  | i + 1 => by
    rw [if_pos (decide_eq_true (by omega))]
    show (2 ^ i - ((wsum c i : Nat) : Int)) * 2 - ((c (i + 1) : Nat) : Int) = 2 ^ (i + 1) - ((2 * wsum c i + c (i + 1) : Nat) : Int)
    rw [Int.pow_succ]
    push_cast
    generalize (2 : Int) ^ i = a
    omega
def spLens : Sp := fun vs H Q _ => ∃ (Z : Zone) (u v : V) (kb : Bool) (z : Int) (rows : List Th), vs = [u, v, .bl kb] ∧ At Z H (.tup [.int z, .tup rows]) u ∧ MOk z rows ∧ At Z H (.tup [.int z, .tup (trimL z rows)]) v ∧ (kb = true → PosR (trimL z rows) ∧ topT (trimL z rows) ≤ botT (trimL z rows)) ∧ ∀ H', Same H H' → Q (.bl true) H'
section
variable {P : Program} {w : World} {K : PySem.W.Frag} {mg : Str → Option Value} {base : Heap} {k : Nat} {t1 t2 t3 : Tok}
theorem ok_law_lengths_right {CM CN CI : Addr} (Z : Zs mg) (c_law_idle : Cal P w K mg base CX0 k "_law_idle" ["_law_small"] spIdleL) (c_law_counted : Cal P w K mg base CX0 k "_law_counted" ["_law_small", "_law_most"] spCountedL) (c_many : Cal P w K mg base (L2.CX P w) k "many" ["machine", "length"] (spMany CM CN CI))
    (d : Def K mg "_law_lengths_right" s_law_lengths_right ["_law_machine_here", "_law_small", "_law_is_kept"]) : Cal P w K mg base CX0 (k + 1) "_law_lengths_right" ["_law_machine_here", "_law_small", "_law_is_kept"] spLens := by
  refine d.ok sc_law_lengths_right (fun vs H Q E h => ?_) (fun f cdv A outer s H vs Q E hr h => ?_)
  · obtain ⟨_, _, _, _, _, _, rfl, _⟩ := h; rfl
  obtain ⟨Zn, u, v, kb, z, rows, rfl, hu, ok, hv, hk, q⟩ := h
  refine ⟨_, (pss_cons (ps_if (pt_val (pe_cal c_law_idle hr (by rfl) (pa_cons (pv 1) pa_nil))) (pss_one (ps_ret (pe_not (pv 2)))) pss_nil)
      (pss_cons (ps_par (i := 3) (j := 4) rfl sc_law_lengths_right.nd rfl rfl (by decide) rfl rfl (pa_cons (pe_cal c_law_counted hr (by rfl) (pa_cons (pv 1) (pa_cons pe_int pa_nil))) (pa_cons pe_int pa_nil)) (by rfl))
      (pss_cons (ps_for PassesOwn.never rfl (pi_range1 (by rfl) Z.range (pa_cons pe_int pa_nil)) (pg_name (i := 5) sc_law_lengths_right.nd rfl (Or.inl rfl)) (pss_cons (ps_if (pt_cmpR op_ne (pe_calL c_many hr (by rfl) (pa_cons (pv 0) (pa_cons (pv 5) pa_nil))) (pe_ix ix_list (pe_ix ix_list (pv 3) (pv 5) (fun _ _ => rfl)) pe_int (fun _ _ => rfl)) (nomark _)) (pss_one (ps_ret pe_bl)) pss_nil)
      (pss_cons (ps_set (i := 4) sc_law_lengths_right.nd rfl (Or.inl rfl) (pe_op op_sub (pe_op op_mul (pv 4) (pe_ifExp (pt_cmpR op_gt (pv 5) pe_int (nomark _)) pe_int pe_int)) (pe_ix ix_list (pe_ix ix_list (pv 3) (pv 5) (fun _ _ => rfl)) pe_int (fun _ _ => rfl))))
      (pss_one (ps_if (PW.pt (pw_and (pt_val (pv 2)) (pw_and1 (pt_cmpR op_lt (pv 4) pe_int (nomark _))))) (pss_one (ps_ret pe_bl)) pss_nil)))))
      (pss_one (ps_ret pe_bl))))), ?_⟩
  have okT := trimL_ok ok
  have n1 := okT.n1
  refine ⟨_, rfl, Zn, v, z, trimL z rows, rfl, hv, okT, fun b H1 s1 hb => ?_⟩
  cases b with
  | true =>
    have nk : kb = false := by
      cases kb with
      | false => rfl
      | true => exact absurd (hb.mpr (pos_noR ok (hk rfl).1)) (by decide)
    subst nk
    exact ⟨_, rfl, iteT ⟨_, rfl, _, rfl, q H1 s1⟩⟩
  | false =>
  have nf := hb.mp rfl
  refine ⟨_, rfl, iteF ?_⟩
  have hu1 := hu.same s1
  have hv1 := hv.same s1
  refine ⟨_, rfl, Zn, v, z, trimL z rows, 40, rfl, hv1, okT, nf, by decide, fun D H2 s2 hc => ⟨_, _, rfl, ?_⟩⟩
  have s02 := s1.trans s2
  have hu2 := hu1.same s2
  obtain ⟨nD, cs, eD, lcs, hcs⟩ := hc.ob
  refine ⟨41, rfl, by decide, by decide, ?_⟩
  refine for_range (lo := 0) (n := 41) (fun i σ' G => Same H2 G ∧ ∃ y5 : Option V, σ' = [some u, some v, some (.bl kb), some (.ref D), some (.int (rmN (fun b => ctN (trimL z rows) z.toNat b 0) i)), y5])
    ⟨Same.refl _, _, rfl⟩ (fun i σ' G hi hh => ?_) (fun σ' G hh => q G (s02.trans hh.1))
  obtain ⟨sG, y5, rfl⟩ := hh
  rw [show (0 : Int) + ((i : Nat) : Int) = ((i : Nat) : Int) from Int.zero_add _]
  have er : cs[i]? = some cs[i] := List.getElem?_eq_getElem (by omega)
  generalize cs[i] = ra at er
  obtain ⟨_, era⟩ := hcs _ _ er
  have eat : ∀ G', Same H2 G' → G' ra = some (.lst ((List.range (trimL z rows).length).map fun s => nV (ctN (trimL z rows) z.toNat i s))) := fun G' s => s _ _ era
  have e0 : atI ((List.range (trimL z rows).length).map fun s => nV (ctN (trimL z rows) z.toNat i s)) ((0 : Nat) : Int) = some (nV (ctN (trimL z rows) z.toNat i 0)) := atI_nat (by rw [List.getElem?_map, List.getElem?_range (by omega)]; rfl)
  refine rd_ifx (fun H' => Same G H') (fun N hN => ?_) (fun G2 s3 => ?_)
  · refine ⟨_, rfl, _, rfl, ?_⟩
    dsimp only [tNil]
    refine use_many (hu2.same sG) ok nf (by omega) fun G2 s3 => ?_
    refine ⟨_, rfl, _, rfl, D, _, _, .ref ra, rfl, rfl, .of ((sG.trans s3) _ _ eD), atI_nat (get_map er), ra, _, 0, nV (ctN (trimL z rows) z.toNat i 0), rfl, rfl, .of (eat _ (sG.trans s3)), e0, rfl, _, rfl, ?_⟩
    rw [decide_eq_true rfl]
    exact iteF (hN G2 s3)
  have s4 := sG.trans s3
  refine ⟨_, rfl, _, rfl, _, _, rfl, rfl, _, rfl, ?_⟩
  have nn : kb = true → 0 ≤ rmN (fun b => ctN (trimL z rows) z.toNat b 0) (i + 1) := fun e => by
    obtain ⟨h1, h2⟩ := hk e
    have := kept_room ok h1 h2 i
    show 0 ≤ 2 ^ i - ((wsum (fun b => ctN (trimL z rows) z.toNat b 0) i : Nat) : Int)
    omega
  have hst := rmN_step (fun b => ctN (trimL z rows) z.toNat b 0) i
  refine iteB (fun e => ?_) (fun e => ?_)
  · rw [if_pos e] at hst
    refine ⟨_, _, rfl, rfl, .inr ⟨by decide, by decide⟩, _, rfl, _, rfl, D, _, _, .ref ra, rfl, rfl, .of (s4 _ _ eD), atI_nat (get_map er), ra, _, 0, nV (ctN (trimL z rows) z.toNat i 0), rfl, rfl, .of (eat _ s4), e0, _, _, rfl, rfl, ?_⟩
    cases kb with
    | false => exact ⟨_, rfl, _, rfl, iteF (iteF ⟨s4, some (nV i), by rw [← hst]; rfl⟩)⟩
    | true =>
      refine ⟨_, rfl, _, rfl, iteT ⟨_, rfl, _, _, rfl, rfl, _, rfl, iteB (fun e => ?_) (fun e => ⟨s4, some (nV i), by rw [← hst]; rfl⟩)⟩⟩
      have h1 := of_decide_eq_true e
      have h2 := nn rfl
      rw [← hst] at h2
      exact absurd h1 (Int.not_lt.mpr h2)
  · rw [if_neg (by rw [e]; decide)] at hst
    refine ⟨_, _, rfl, rfl, .inr ⟨by decide, by decide⟩, _, rfl, _, rfl, D, _, _, .ref ra, rfl, rfl, .of (s4 _ _ eD), atI_nat (get_map er), ra, _, 0, nV (ctN (trimL z rows) z.toNat i 0), rfl, rfl, .of (eat _ s4), e0, _, _, rfl, rfl, ?_⟩
    cases kb with
    | false => exact ⟨_, rfl, _, rfl, iteF (iteF ⟨s4, some (nV i), by rw [← hst]; rfl⟩)⟩
    | true =>
      refine ⟨_, rfl, _, rfl, iteT ⟨_, rfl, _, _, rfl, rfl, _, rfl, iteB (fun e => ?_) (fun e => ⟨s4, some (nV i), by rw [← hst]; rfl⟩)⟩⟩
      have h1 := of_decide_eq_true e
      have h2 := nn rfl
      rw [← hst] at h2
      exact absurd h1 (Int.not_lt.mpr h2)
end
end KL
end
section
set_option maxHeartbeats 1000000
namespace KL
open PySem PySem.Spec PyProof.Rows L2
abbrev sc_lawN : List Str := ["_law_script", "_law_pot_here", "_law_turn", "_law_machine_here", "_law_small", "_law_told"]
abbrev s_law : Stmt := topS 67
theorem sc_law : FnScope ["_law_script", "_law_pot_here", "_law_turn", "_law_machine_here", "_law_small", "_law_told"] ["_law_script"] (defScope s_law) := ⟨rfl, rfl, rfl, by decide +kernel, rfl, by decide +kernel, by decide +kernel⟩
section
variable {P : Program} {w : World} {K : PySem.W.Frag} {mg : Str → Option Value} {base : Heap} {k : Nat} {t1 t2 t3 : Tok}
theorem ok_law {CM : Addr} (Z : Zs mg) (c_law_pot : Cal P w K mg base CX0 k "_law_pot" ["_law_script"] (spPot K)) (c_law_menu : Cal P w K mg base CX0 k "_law_menu" ["_law_pot_here"] spPMenu) (c_law_machine : Cal P w K mg base CX0 k "_law_machine" ["_law_pot_here", "_law_most", "_law_mores"] spPMach) (c_law_trim : Cal P w K mg base CX0 k "_law_trim" ["_law_machine_here"] spLTrim)
    (c_law_worths : Cal P w K mg base CX0 k "_law_worths" ["_law_small"] spOwn1) (c_law_closed_in : Cal P w K mg base CX0 k "_law_closed_in" ["_law_small", "_law_told"] spClosed) (c_law_lengths_right : Cal P w K mg base CX0 k "_law_lengths_right" ["_law_machine_here", "_law_small", "_law_is_kept"] spLens)
    (c_worths : Cal P w K mg base (L2.CX P w) k "worths" ["machine"] (spWorths CM)) (c_total : Cal P w K mg base (L2.CX P w) k "total" ["machine"] (spTotal CM)) (c_kept : Cal P w K mg base (L2.CX P w) k "kept" ["machine"] (spKeptM CM))
    {f : Addr} {fd : FuncData} (F : Fun K "law" "law" s_law f fd) : FnOk P w K mg base CX0 (k + 1) f fd ["_law_script"] (spLaw K) := by
  refine F.ok sc_law (fun vs H Q E h => ?_) (fun cdv A outer s H vs Q E hr h => ?_)
  · obtain ⟨_, _, rfl, _⟩ := h; rfl
  obtain ⟨a, ns, rfl, hS, h63, q⟩ := h
  refine ⟨_, (pss_cons (ps_set (i := 1) sc_law.nd rfl (Or.inl rfl) (pe_cal c_law_pot hr (by rfl) (pa_cons (pv 0) pa_nil)))
      (pss_cons (ps_for PassesOwn.never rfl (pi_range1 (by rfl) Z.range (pa_cons pe_int pa_nil)) (pg_name (i := 2) sc_law.nd rfl (Or.inl rfl)) (pss_cons (ps_set (i := 3) sc_law.nd rfl (Or.inl rfl) (pe_cal c_law_machine hr (by rfl) (pa_cons (pv 1) (pa_cons pe_int (pa_cons (pe_cal c_law_menu hr (by rfl) (pa_cons (pv 1) pa_nil)) pa_nil)))))
      (pss_cons (ps_set (i := 4) sc_law.nd rfl (Or.inl rfl) (pe_cal c_law_trim hr (by rfl) (pa_cons (pv 3) pa_nil)))
      (pss_cons (ps_set (i := 5) sc_law.nd rfl (Or.inl rfl) (pe_calL c_worths hr (by rfl) (pa_cons (pv 3) pa_nil)))
      (pss_cons (ps_if (PW.pt (pw_and (pt_cmpR op_notN (pv 5) pe_non (nomark _)) (pw_and1 (PW.pt (pw_or (pt_not (pt_val (pe_cal c_law_closed_in hr (by rfl) (pa_cons (pv 4) (pa_cons (pv 5) pa_nil))))) (pw_or1 (pt_cmpR (op_neD hr.units) (pe_calL c_total hr (by rfl) (pa_cons (pv 3) pa_nil)) (pe_ix ix_tup (pv 5) pe_int (fun _ _ => rfl)) (nomark _)))))))) (pss_one (ps_ret pe_bl)) pss_nil)
      (pss_cons (ps_if (pt_cmpR op_ne (pe_cmpR op_isN (pv 5) pe_non (nomark _)) (pe_cmpR op_isN (pe_cal c_law_worths hr (by rfl) (pa_cons (pv 4) pa_nil)) pe_non (nomark _)) (nomark _)) (pss_one (ps_ret pe_bl)) pss_nil)
      (pss_one (ps_if (pt_not (pt_val (pe_cal c_law_lengths_right hr (by rfl) (pa_cons (pv 3) (pa_cons (pv 4) (pa_cons (pe_calL c_kept hr (by rfl) (pa_cons (pv 3) pa_nil)) pa_nil)))))) (pss_one (ps_ret pe_bl)) pss_nil))))))))
      (pss_one (ps_ret pe_bl)))), ?_⟩
  refine ⟨_, rfl, a, ns, rfl, hS, h63, fun P0 G S H1 s1 nP nG nS p1 => ?_⟩
  refine ⟨2, rfl, by decide, by decide, ?_⟩
  refine for_range (lo := 0) (n := 2) (fun i σ' G' => PotAt P0 G S G' ∧ ∃ y2 y3 y4 y5 : Option V, σ' = [some (.ref a), some (.ref P0), y2, y3, y4, y5]) ⟨p1, _, _, _, _, rfl⟩ (fun i σ' G0 hi hh => ?_) (fun σ' G' hh => q _)
  obtain ⟨p0, y2, y3, y4, y5, rfl⟩ := hh
  -- machine
  refine ⟨_, rfl, _, rfl, P0, G, S, rfl, p0, fun am Hm ms sm pm nam eam l1 l2 hm => ?_⟩
  have nn := p0.ne_new nam
  refine ⟨P0, G, S, am, 6, ms, rfl, pm, by decide, by decide, eam, nn.1, nn.2, l1, l2, hm, fun v z rows H2 s2 p2 hv ok _ _ => ?_⟩
  clear eam nam nn sm pm hm
  have okT := trimL_ok ok
  have n1 := okT.n1
  -- small
  refine ⟨_, rfl, AtP P0 G, v, z, rows, rfl, hv, ok, fun v2 H3 s3 a3 => ?_⟩
  have p3 := p2.same s3
  have hv3 := hv.same s3
  have a3' : At (AtP P0 G) H3 (.tup [.int z, .tup (trimL z rows)]) v2 := a3.less fun a h => p2.trk a h
  -- told
  refine ⟨_, rfl, AtP P0 G, v, _, rfl, hv3, ok.short, fun z' rows' e1 ok' => ?_, fun mb => absurd (mb.symm.trans ok.mach) (by decide)⟩
  obtain ⟨rfl, rfl⟩ := mach_inj e1
  have shN : SeqAt.shaped (py .non) = true := shaped_th lay_non (by decide)
  -- the last part of a turn
  have fin : ∀ (G4 : Hp) (v3 : Option V), PotAt P0 G S G4 → At (AtP P0 G) G4 (.tup [.int z, .tup rows]) v → At (AtP P0 G) G4 (.tup [.int z, .tup (trimL z rows)]) v2 → ∀ (D : Ends), (∀ G', PotAt P0 G S G' → D.nx [some (.ref a), some (.ref P0), some (.int (0 + (i : Nat))), some v, some v2, v3] G') →
      tIfS (tNot (tB (tCall spLens [] E0 (tCons (tVar 3) (tCons (tVar 4) (tCons (tCall (spKeptM CM) [] E0 (tCons (tVar 3) tNil)) tNil)))))) (tRet (tC (.bl false))) tNext D [some (.ref a), some (.ref P0), some (.int (0 + (i : Nat))), some v, some v2, v3] G4 := fun G4 v3 p4 hv4 a4 D hD => by
    refine ⟨_, rfl, _, rfl, _, rfl, AtP P0 G, v, _, rfl, hv4, ok.short, fun z' rows' e1 ok' => ?_, fun mb => absurd (mb.symm.trans ok.mach) (by decide)⟩
    obtain ⟨rfl, rfl⟩ := mach_inj e1
    refine fun G5 s5 => ⟨fun hp => ?_, fun hp => ?_⟩
    · exact ⟨AtP P0 G, v, v2, _, z, rows, rfl, hv4.same s5, ok, a4.same s5, fun e => ⟨hp, of_decide_eq_true e⟩, fun G6 s6 => ⟨_, rfl, iteF (hD G6 (p4.same (s5.trans s6)))⟩⟩
    · exact ⟨AtP P0 G, v, v2, _, z, rows, rfl, hv4.same s5, ok, a4.same s5, (fun e => nomatch e), fun G6 s6 => ⟨_, rfl, iteF (hD G6 (p4.same (s5.trans s6)))⟩⟩
  refine ⟨fun hp v3 H4 s4 a4 => ?_, fun hp H4 s4 => ?_⟩
  · have p4 := p3.same s4
    have hv4 := hv3.same s4
    have aT4 := a3'.same s4
    have a4' : At (AtP P0 G) H4 (wosT (trimL z rows)) v3 := a4.less fun a h => p3.trk a h
    obtain ⟨pw, ws, rfl, npw, epw, aw⟩ := id a4'
    have g0 : (wosL (trimL z rows))[0]? = some (frT (Yk (eqr (trimL z rows)) (trimL z rows).length 0 (trimL z rows).length) (dk (eqr (trimL z rows)) (trimL z rows).length)) := by rw [List.getElem?_map, List.getElem?_range (by omega)]; rfl
    obtain ⟨v0, ev0, a0⟩ := aw.at g0
    have a0 : At (AtP P0 G) H4 (.tup [.int (topT (trimL z rows)), .int (botT (trimL z rows))]) v0 := a0
    have ly : (py (.tup [.int (topT (trimL z rows)), .int (botT (trimL z rows))])).canLay0 = true := lay_fr (Yk (eqr (trimL z rows)) (trimL z rows).length 0 (trimL z rows).length) (dk (eqr (trimL z rows)) (trimL z rows).length)
    have dpl : dp (.tup [.int (topT (trimL z rows)), .int (botT (trimL z rows))]) ≤ 64 := by show 1 ≤ 64; decide
    dsimp only [gName]
    refine rd_ifx (fun H' => Same H4 H') (fun N hN => ?_) (fun H5 s5 => ?_)
    · refine ⟨_, rfl, rfl, _, rfl, iteT ?_⟩
      refine ⟨_, rfl, _, rfl, AtP P0 G, v2, _, z, trimL z rows, rfl, aT4, okT, hp, a4', fun H5 s5 => ⟨_, rfl, iteF ?_⟩⟩
      refine ⟨_, rfl, AtP P0 G, v, _, rfl, hv4.same s5, ok.short, fun z' rows' e1 ok' => ?_, fun mb => absurd (mb.symm.trans ok.mach) (by decide)⟩
      obtain ⟨rfl, rfl⟩ := mach_inj e1
      refine ⟨fun _ v6 H6 s6 a6 => ?_, fun h => absurd hp h⟩
      have s56 := s5.trans s6
      refine ⟨_, rfl, pw, ws, 0, v0, rfl, rfl, .of (s56 _ _ epw), atI_nat ev0, ?_⟩
      refine ⟨_, _, At.dp _ _ a6 ly, At.dp _ _ (a0.same s56) ly, shaped_th ly dpl, shaped_th ly dpl, _, rfl, ?_⟩
      rw [SeqAt.eqv_refl _ ly]
      exact iteF (hN H6 s56)
    refine rd_ifx (fun H' => Same H5 H') (fun N hN => ?_) (fun H6 s6 => ?_)
    · refine ⟨_, rfl, rfl, _, rfl, AtP P0 G, v2, z, rows, rfl, aT4.same s5, ok, fun _ v6 H6 s6 a6 => ?_, fun h => absurd hp h⟩
      obtain ⟨p6, w6, rfl, _, _, _⟩ := id a6
      exact ⟨rfl, rfl, _, rfl, iteF (hN H6 s6)⟩
    have s46 := s5.trans s6
    exact fin H6 _ (p4.same s46) (hv4.same s46) (aT4.same s46) _ fun G' p' => ⟨p', _, _, _, _, rfl⟩
  · have p4 := p3.same s4
    have hv4 := hv3.same s4
    have aT4 := a3'.same s4
    dsimp only [gName]
    refine rd_ifx (fun H' => H4 = H') (fun N hN => ?_) (fun H5 e5 => ?_)
    · exact ⟨_, rfl, rfl, _, rfl, iteF (iteF (hN H4 rfl))⟩
    subst e5
    refine rd_ifx (fun H' => Same H4 H') (fun N hN => ?_) (fun H6 s6 => ?_)
    · refine ⟨_, rfl, rfl, _, rfl, AtP P0 G, v2, z, rows, rfl, aT4, ok, fun h => absurd h hp, fun _ H6 s6 => ?_⟩
      exact ⟨rfl, rfl, _, rfl, iteF (hN H6 s6)⟩
    exact fin H6 _ (p4.same s6) (hv4.same s6) (aT4.same s6) _ fun G' p' => ⟨p', _, _, _, _, rfl⟩
end
end KL
end
section
set_option maxHeartbeats 4000000
namespace KL
open PySem PySem.Spec PyProof.Rows L2
/-- a def of the text, as the top has left it -/
theorem def_mk {K : PySem.W.Frag} {h : Heap} {mg : Str → Option Value} {x : Str} {st : Stmt} {ps : List Str} {f : Addr} {oc kV dc pm cd ct : Value} {od an : Option Addr} {sl : Array (Option Value)} (X : K.In h) (G : h.Ns mainGlobals mg)
    (a : PySem.W.nsIn K mainGlobals x = some (some (.ref f))) (l : K.lookup f = some ⟨oc, od, .func (PySem.W.fnOf x x (defArgs st) (defBody st) (defScope st) .none kV dc pm an cd ct), sl⟩) (c : PySem.W.codeIn K cd x = true) (k : PySem.W.keepIn K (.ref f) = true)
    (b : ∀ (kV doc pm : Value) (an : Option Addr) (cdv ct : Value) (us : List Value), us.length = ps.length → bindArgs (PySem.W.fnOf x x (defArgs st) (defBody st) (defScope st) .none kV doc pm an cdv ct) ⟨us, []⟩ = pure (ps.zip us)) : Def K mg x st ps :=
  have F := fun_mk (st := st) l c k
  ⟨_, _, F, PySem.W.mg_of X G a, F.binds b⟩
/-- an error of the class S by a handler of the class S' -/
theorem caught {K : PySem.W.Frag} {S S' : Addr} {b : Bool} (h1 : PySem.W.subIn K (.ref S') (.type "BaseException") = some true) (h2 : PySem.W.isClsIn K S' = true) (h3 : PySem.W.typeIn K (.ref S') = some (.type "type")) (h4 : PySem.W.subIn K (.ref S) (.ref S') = some b) : PySem.W.exmOne K (.ref S) (.ref S') = some b := by
  have g : (PySem.W.clsIn K S').isSome = true := h2
  unfold PySem.W.exmOne PySem.W.kitCls
  rw [h1]
  simp only [beq_self_eq_true, if_true, g, h3, h4, Bool.and_self]
/-- all that the law leans on -/
structure Facts (K : PySem.W.Frag) (mg : Str → Option Value) (fa : Addr) : Prop where
  Z : Zs mg
  M : ∃ t1 t2 t3, Ms mg t1 t2 t3
  T : ∃ C_NoMachine C_NoNumber C_Idle, Er K mg "NoMachine" C_NoMachine ∧ Er K mg "NoNumber" C_NoNumber ∧ Er K mg "Idle" C_Idle
  G : Gs mg
  Ga : Ga mg
  Gd : Gdi mg
  K_Counts : ∃ C, CoC K C ∧ IDef K mg "Counts" C "Counts.__init__" s_Counts___init__ ["self", "machine"] ∧ MDef K C "of_length" "Counts.of_length" s_Counts_of_length ["self", "bits"] ∧ MDef K C "behind" "Counts.behind" s_Counts_behind ["self", "step", "bits"] ∧ MDef K C "grow" "Counts.grow" s_Counts_grow ["self"]
  c_MOST_LENGTH : ∃ t, mg "MOST_LENGTH" = some (.int 4000 t)
  is_number : Def K mg "is_number" s_is_number ["thing"]
  is_within : Def K mg "is_within" s_is_within ["thing", "low", "high"]
  is_pair : Def K mg "is_pair" s_is_pair ["thing"]
  is_machine : Def K mg "is_machine" s_is_machine ["thing"]
  is_framed : Def K mg "is_framed" s_is_framed ["thing"]
  is_size : Def K mg "is_size" s_is_size ["thing"]
  is_row : Def K mg "is_row" s_is_row ["thing", "size", "states"]
  is_step : Def K mg "is_step" s_is_step ["thing", "states"]
  demand_machine : Def K mg "demand_machine" s_demand_machine ["thing"]
  trimmed : Def K mg "trimmed" s_trimmed ["machine"]
  trimmed_of : Def K mg "trimmed_of" s_trimmed_of ["machine"]
  textless : Def K mg "textless" s_textless ["size"]
  nexts : Def K mg "nexts" s_nexts ["rows"]
  befores : Def K mg "befores" s_befores ["rows"]
  spread : Def K mg "spread" s_spread ["starts", "ways"]
  renumbered : Def K mg "renumbered" s_renumbered ["row", "numbers"]
  renumbered_step : Def K mg "renumbered_step" s_renumbered_step ["step", "numbers"]
  idle : Def K mg "idle" s_idle ["machine"]
  idle_round : Def K mg "idle_round" s_idle_round ["rows", "start"]
  total : Def K mg "total" s_total ["machine"]
  worths : Def K mg "worths" s_worths ["machine"]
  kept : Def K mg "kept" s_kept ["machine"]
  lowest : Def K mg "lowest" s_lowest ["top", "bottom"]
  shares : Def K mg "shares" s_shares ["row", "states"]
  equation : Def K mg "equation" s_equation ["rows", "state"]
  solved : Def K mg "solved" s_solved ["table"]
  cleared : Def K mg "cleared" s_cleared ["row", "chosen", "at", "last"]
  gathered : Def K mg "gathered" s_gathered ["steps"]
  states_in_turn : Def K mg "states_in_turn" s_states_in_turn ["rows"]
  demand_length : Def K mg "demand_length" s_demand_length ["thing"]
  demand_busy : Def K mg "demand_busy" s_demand_busy ["machine"]
  many : Def K mg "many" s_many ["machine", "length"]
  law_pot : Def K mg "_law_pot" s_law_pot ["_law_script"]
  law_draw : Def K mg "_law_draw" s_law_draw ["_law_pot_here", "_law_much"]
  law_any : Def K mg "_law_any" s_law_any ["_law_pot_here", "_law_items"]
  law_power : Def K mg "_law_power" s_law_power ["_law_much"]
  law_machine : Def K mg "_law_machine" s_law_machine ["_law_pot_here", "_law_most", "_law_mores"]
  law_menu : Def K mg "_law_menu" s_law_menu ["_law_pot_here"]
  law_trim : Def K mg "_law_trim" s_law_trim ["_law_machine_here"]
  law_gcd : Def K mg "_law_gcd" s_law_gcd ["_law_one", "_law_other"]
  law_reduced : Def K mg "_law_reduced" s_law_reduced ["_law_top", "_law_bottom"]
  law_plus : Def K mg "_law_plus" s_law_plus ["_law_one", "_law_other"]
  law_lighter : Def K mg "_law_lighter" s_law_lighter ["_law_row"]
  law_worths : Def K mg "_law_worths" s_law_worths ["_law_small"]
  law_idle : Def K mg "_law_idle" s_law_idle ["_law_small"]
  law_counted : Def K mg "_law_counted" s_law_counted ["_law_small", "_law_most"]
  law_stepped : Def K mg "_law_stepped" s_law_stepped ["_law_small", "_law_row"]
  law_ends : Def K mg "_law_ends" s_law_ends ["_law_small"]
  law_is_less : Def K mg "_law_is_less" s_law_is_less ["_law_one", "_law_other"]
  law_closed_in : Def K mg "_law_closed_in" s_law_closed_in ["_law_small", "_law_told"]
  law_lengths_right : Def K mg "_law_lengths_right" s_law_lengths_right ["_law_machine_here", "_law_small", "_law_is_kept"]
  law : ∃ fd, Fun K "law" "law" s_law fa fd ∧ Binds K fd ["_law_script"] []
theorem Facts.fn {K : PySem.W.Frag} {mg : Str → Option Value} {fa : Addr} (F : Facts K mg fa) {P : Program} {w : World} : ∃ fd : FuncData, (∀ (s : Shared) (u : Value), BindsTo s fd ⟨[u], []⟩ [("_law_script", u)]) ∧ ∀ base : Heap, K.In base → base.Ns mainGlobals mg → FnOk P w K mg base CX0 12 fa fd ["_law_script"] (spLaw K) := by
  obtain ⟨t1, t2, t3, M⟩ := F.M
  obtain ⟨C_NoMachine, C_NoNumber, C_Idle, E_NoMachine, E_NoNumber, E_Idle⟩ := F.T
  obtain ⟨fd, fl, bl⟩ := F.law
  have Z := F.Z
  refine ⟨fd, fun s u => ?_, fun base _ _ => ?_⟩
  · obtain ⟨oc, od, kV, doc, pm, an, cdv, ct, osl, rfl, lk, hcd⟩ := fl.ex
    exact .of_eq rfl
  have G := F.G
  have Ga := F.Ga
  have Gd := F.Gd
  have n1 := ok_is_number (P := P) (w := w) (base := base) (k := 0) Z F.is_number
  have p1 := ok_is_pair (P := P) (w := w) (base := base) (k := 0) Z F.is_pair
  have w2 := ok_is_within (k := 1) n1 F.is_within
  have z3 := ok_is_size (k := 2) M w2 F.is_size
  have s3 := ok_is_step (k := 2) M (p1.mono (by omega)) w2 F.is_step
  have r4 := ok_is_row (k := 3) Z M (p1.mono (by omega)) (w2.mono (by omega)) s3 F.is_row
  have fr4 := ok_is_framed (k := 3) Z M (p1.mono (by omega)) z3 F.is_framed
  have m5 := ok_is_machine (k := 4) Z fr4 r4 F.is_machine
  have dm6 := ok_demand_machine (k := 5) E_NoMachine m5 F.demand_machine
  have ne1 := ok_nexts (P := P) (w := w) (base := base) (k := 0) F.nexts
  have be2 := ok_befores (k := 1) Z ne1 F.befores
  have sp1 := ok_spread (P := P) (w := w) (base := base) (k := 0) Z F.spread
  have rs1 := ok_renumbered_step (P := P) (w := w) (base := base) (k := 0) F.renumbered_step
  have rn2 := ok_renumbered (k := 1) Z rs1 F.renumbered
  have tl1 := ok_textless (P := P) (w := w) (base := base) (k := 0) F.textless
  have tf3 := ok_trimmed_of (k := 2) Z (ne1.mono (by omega)) be2 (sp1.mono (by omega)) rn2 (tl1.mono (by omega)) F.trimmed_of
  have tr7 := ok_trimmed (k := 6) dm6 (tf3.mono (by omega)) F.trimmed
  have sh1 := ok_shares (P := P) (w := w) (base := base) (k := 0) M F.shares
  have eq2 := ok_equation (k := 1) Z M sh1 F.equation
  have lo1 := ok_lowest (P := P) (w := w) (base := base) (k := 0) G F.lowest
  have cl1 := ok_cleared (P := P) (w := w) (base := base) (k := 0) G F.cleared
  have so2 := ok_solved (k := 1) Z lo1 cl1 F.solved
  have wo8 := ok_worths (k := 7) Z tr7 (eq2.mono (by omega)) (so2.mono (by omega)) F.worths
  have to9 := ok_total (k := 8) wo8 F.total
  have ke10 := ok_kept (k := 9) to9 F.kept
  have ir1 := ok_idle_round (P := P) (w := w) (base := base) (k := 0) Z F.idle_round
  have id8 := idle_one (ok_idle (k := 7) Z tr7 (ir1.mono (by omega)) F.idle)
  have ga1 := ok_gathered (P := P) (w := w) (base := base) (k := 0) F.gathered
  have st1 := ok_states_in_turn (P := P) (w := w) (base := base) (k := 0) Z F.states_in_turn
  obtain ⟨C, TC, kI, kO, kB, kG⟩ := F.K_Counts
  have co8 := ok_Counts (k := 7) TC tr7 (ga1.mono (by omega)) (st1.mono (by omega)) kI
  have gr1 := ok_Counts_grow (P := P) (w := w) (base := base) (k := 0) Z TC kG
  have bh2 := ok_Counts_behind (k := 1) Z TC gr1 kB
  have of3 := ok_Counts_of_length (k := 2) TC bh2 kO
  have dl3 := ok_demand_length (k := 2) F.c_MOST_LENGTH E_NoNumber w2 F.demand_length
  have db9 := ok_demand_busy (k := 8) E_Idle id8 F.demand_busy
  have my10 := ok_many (k := 8) (dm6.mono (by omega)) (dl3.mono (by omega)) db9 co8 (of3.mono (by omega)) F.many
  have po1 := ok_law_pot (P := P) (w := w) (base := base) (k := 0) Ga Z F.law_pot
  have dr1 := ok_law_draw' (P := P) (w := w) (base := base) (k := 0) Z F.law_draw
  have an2 := ok_law_any' (k := 1) Z dr1 F.law_any
  have pw1 := ok_law_power (P := P) (w := w) (base := base) (k := 0) Z F.law_power
  have ma3 := ok_law_machine' (k := 2) Z (dr1.mono (by omega)) an2 F.law_machine
  have me3 := ok_law_menu' (k := 2) an2 F.law_menu
  have tm1 := ok_law_trim (P := P) (w := w) (base := base) (k := 0) Z Gd F.law_trim
  have gc1 := ok_law_gcd (P := P) (w := w) (base := base) (k := 0) Ga Z F.law_gcd
  have re2 := ok_law_reduced (k := 1) gc1 F.law_reduced
  have li2 := ok_law_lighter (k := 1) gc1 F.law_lighter
  have lw3 := own_one (ok_law_worths (k := 2) Z (pw1.mono (by omega)) li2 re2 F.law_worths)
  have pl3 := ok_law_plus (k := 2) re2 F.law_plus
  have il1 := ok_law_is_less (P := P) (w := w) (base := base) (k := 0) F.law_is_less
  have en2 := ok_law_ends (k := 1) pw1 F.law_ends
  have st4 := ok_law_stepped (k := 3) (pw1.mono (by omega)) (re2.mono (by omega)) pl3 F.law_stepped
  have ci5 := ok_law_closed_in (k := 4) G Z (en2.mono (by omega)) st4 (pl3.mono (by omega)) (il1.mono (by omega)) F.law_closed_in
  have id1 := ok_law_idle (P := P) (w := w) (base := base) (k := 0) Z F.law_idle
  have lc1 := ok_law_counted (P := P) (w := w) (base := base) (k := 0) Z F.law_counted
  have lr11 := ok_law_lengths_right (k := 10) Z (id1.mono (by omega)) (lc1.mono (by omega)) (my10.mono (by omega)) F.law_lengths_right
  exact ok_law (k := 11) Z (po1.mono (by omega)) (me3.mono (by omega)) (ma3.mono (by omega)) (tm1.mono (by omega)) (lw3.mono (by omega)) (ci5.mono (by omega)) lr11 (wo8.mono (by omega)) (to9.mono (by omega)) (ke10.mono (by omega)) fl
theorem facts_mk {K : PySem.W.Frag} {h : Heap} {mg : Str → Option Value} {fa C_NoMachine C_NoNumber C_Idle  : Addr} {t1 t2 t3 : Tok} (X : K.In h) (G : h.Ns mainGlobals mg) (hfa : mg "law" = some (.ref fa))
    {f0 : Addr} {oc0 kV0 dc0 pm0 cd0 ct0 : Value} {od0 an0 : Option Addr} {sl0 : Array (Option Value)}
    {f1 : Addr} {oc1 kV1 dc1 pm1 cd1 ct1 : Value} {od1 an1 : Option Addr} {sl1 : Array (Option Value)}
    {f2 : Addr} {oc2 kV2 dc2 pm2 cd2 ct2 : Value} {od2 an2 : Option Addr} {sl2 : Array (Option Value)}
    {f3 : Addr} {oc3 kV3 dc3 pm3 cd3 ct3 : Value} {od3 an3 : Option Addr} {sl3 : Array (Option Value)}
    {f4 : Addr} {oc4 kV4 dc4 pm4 cd4 ct4 : Value} {od4 an4 : Option Addr} {sl4 : Array (Option Value)}
    {f5 : Addr} {oc5 kV5 dc5 pm5 cd5 ct5 : Value} {od5 an5 : Option Addr} {sl5 : Array (Option Value)}
    {f6 : Addr} {oc6 kV6 dc6 pm6 cd6 ct6 : Value} {od6 an6 : Option Addr} {sl6 : Array (Option Value)}
    {f7 : Addr} {oc7 kV7 dc7 pm7 cd7 ct7 : Value} {od7 an7 : Option Addr} {sl7 : Array (Option Value)}
    {f8 : Addr} {oc8 kV8 dc8 pm8 cd8 ct8 : Value} {od8 an8 : Option Addr} {sl8 : Array (Option Value)}
    {f9 : Addr} {oc9 kV9 dc9 pm9 cd9 ct9 : Value} {od9 an9 : Option Addr} {sl9 : Array (Option Value)}
    {f10 : Addr} {oc10 kV10 dc10 pm10 cd10 ct10 : Value} {od10 an10 : Option Addr} {sl10 : Array (Option Value)}
    {f11 : Addr} {oc11 kV11 dc11 pm11 cd11 ct11 : Value} {od11 an11 : Option Addr} {sl11 : Array (Option Value)}
    {f12 : Addr} {oc12 kV12 dc12 pm12 cd12 ct12 : Value} {od12 an12 : Option Addr} {sl12 : Array (Option Value)}
    {f13 : Addr} {oc13 kV13 dc13 pm13 cd13 ct13 : Value} {od13 an13 : Option Addr} {sl13 : Array (Option Value)}
    {f14 : Addr} {oc14 kV14 dc14 pm14 cd14 ct14 : Value} {od14 an14 : Option Addr} {sl14 : Array (Option Value)}
    {f15 : Addr} {oc15 kV15 dc15 pm15 cd15 ct15 : Value} {od15 an15 : Option Addr} {sl15 : Array (Option Value)}
    {f16 : Addr} {oc16 kV16 dc16 pm16 cd16 ct16 : Value} {od16 an16 : Option Addr} {sl16 : Array (Option Value)}
    {f17 : Addr} {oc17 kV17 dc17 pm17 cd17 ct17 : Value} {od17 an17 : Option Addr} {sl17 : Array (Option Value)}
    {f18 : Addr} {oc18 kV18 dc18 pm18 cd18 ct18 : Value} {od18 an18 : Option Addr} {sl18 : Array (Option Value)}
    {f19 : Addr} {oc19 kV19 dc19 pm19 cd19 ct19 : Value} {od19 an19 : Option Addr} {sl19 : Array (Option Value)}
    {f20 : Addr} {oc20 kV20 dc20 pm20 cd20 ct20 : Value} {od20 an20 : Option Addr} {sl20 : Array (Option Value)}
    {f21 : Addr} {oc21 kV21 dc21 pm21 cd21 ct21 : Value} {od21 an21 : Option Addr} {sl21 : Array (Option Value)}
    {f22 : Addr} {oc22 kV22 dc22 pm22 cd22 ct22 : Value} {od22 an22 : Option Addr} {sl22 : Array (Option Value)}
    {f23 : Addr} {oc23 kV23 dc23 pm23 cd23 ct23 : Value} {od23 an23 : Option Addr} {sl23 : Array (Option Value)}
    {f24 : Addr} {oc24 kV24 dc24 pm24 cd24 ct24 : Value} {od24 an24 : Option Addr} {sl24 : Array (Option Value)}
    {f25 : Addr} {oc25 kV25 dc25 pm25 cd25 ct25 : Value} {od25 an25 : Option Addr} {sl25 : Array (Option Value)}
    {f26 : Addr} {oc26 kV26 dc26 pm26 cd26 ct26 : Value} {od26 an26 : Option Addr} {sl26 : Array (Option Value)}
    {f27 : Addr} {oc27 kV27 dc27 pm27 cd27 ct27 : Value} {od27 an27 : Option Addr} {sl27 : Array (Option Value)}
    {f28 : Addr} {oc28 kV28 dc28 pm28 cd28 ct28 : Value} {od28 an28 : Option Addr} {sl28 : Array (Option Value)}
    {f29 : Addr} {oc29 kV29 dc29 pm29 cd29 ct29 : Value} {od29 an29 : Option Addr} {sl29 : Array (Option Value)}
    {f30 : Addr} {oc30 kV30 dc30 pm30 cd30 ct30 : Value} {od30 an30 : Option Addr} {sl30 : Array (Option Value)}
    {f31 : Addr} {oc31 kV31 dc31 pm31 cd31 ct31 : Value} {od31 an31 : Option Addr} {sl31 : Array (Option Value)}
    {f32 : Addr} {oc32 kV32 dc32 pm32 cd32 ct32 : Value} {od32 an32 : Option Addr} {sl32 : Array (Option Value)}
    {f33 : Addr} {oc33 kV33 dc33 pm33 cd33 ct33 : Value} {od33 an33 : Option Addr} {sl33 : Array (Option Value)}
    {f34 : Addr} {oc34 kV34 dc34 pm34 cd34 ct34 : Value} {od34 an34 : Option Addr} {sl34 : Array (Option Value)}
    {f35 : Addr} {oc35 kV35 dc35 pm35 cd35 ct35 : Value} {od35 an35 : Option Addr} {sl35 : Array (Option Value)}
    {f36 : Addr} {oc36 kV36 dc36 pm36 cd36 ct36 : Value} {od36 an36 : Option Addr} {sl36 : Array (Option Value)}
    {f37 : Addr} {oc37 kV37 dc37 pm37 cd37 ct37 : Value} {od37 an37 : Option Addr} {sl37 : Array (Option Value)}
    {f38 : Addr} {oc38 kV38 dc38 pm38 cd38 ct38 : Value} {od38 an38 : Option Addr} {sl38 : Array (Option Value)}
    {f39 : Addr} {oc39 kV39 dc39 pm39 cd39 ct39 : Value} {od39 an39 : Option Addr} {sl39 : Array (Option Value)}
    {f40 : Addr} {oc40 kV40 dc40 pm40 cd40 ct40 : Value} {od40 an40 : Option Addr} {sl40 : Array (Option Value)}
    {f41 : Addr} {oc41 kV41 dc41 pm41 cd41 ct41 : Value} {od41 an41 : Option Addr} {sl41 : Array (Option Value)}
    {f42 : Addr} {oc42 kV42 dc42 pm42 cd42 ct42 : Value} {od42 an42 : Option Addr} {sl42 : Array (Option Value)}
    {f43 : Addr} {oc43 kV43 dc43 pm43 cd43 ct43 : Value} {od43 an43 : Option Addr} {sl43 : Array (Option Value)}
    {f44 : Addr} {oc44 kV44 dc44 pm44 cd44 ct44 : Value} {od44 an44 : Option Addr} {sl44 : Array (Option Value)}
    {f45 : Addr} {oc45 kV45 dc45 pm45 cd45 ct45 : Value} {od45 an45 : Option Addr} {sl45 : Array (Option Value)}
    {f46 : Addr} {oc46 kV46 dc46 pm46 cd46 ct46 : Value} {od46 an46 : Option Addr} {sl46 : Array (Option Value)}
    {f47 : Addr} {oc47 kV47 dc47 pm47 cd47 ct47 : Value} {od47 an47 : Option Addr} {sl47 : Array (Option Value)}
    {f48 : Addr} {oc48 kV48 dc48 pm48 cd48 ct48 : Value} {od48 an48 : Option Addr} {sl48 : Array (Option Value)}
    {f49 : Addr} {oc49 kV49 dc49 pm49 cd49 ct49 : Value} {od49 an49 : Option Addr} {sl49 : Array (Option Value)}
    {f50 : Addr} {oc50 kV50 dc50 pm50 cd50 ct50 : Value} {od50 an50 : Option Addr} {sl50 : Array (Option Value)}
    {f51 : Addr} {oc51 kV51 dc51 pm51 cd51 ct51 : Value} {od51 an51 : Option Addr} {sl51 : Array (Option Value)}
    {C_Counts : Addr}
    {f_Counts___init__ : Addr} {oc_Counts___init__ kV_Counts___init__ dc_Counts___init__ pm_Counts___init__ cd_Counts___init__ ct_Counts___init__ : Value} {od_Counts___init__ an_Counts___init__ : Option Addr} {sl_Counts___init__ : Array (Option Value)}
    {f_Counts_of_length : Addr} {oc_Counts_of_length kV_Counts_of_length dc_Counts_of_length pm_Counts_of_length cd_Counts_of_length ct_Counts_of_length : Value} {od_Counts_of_length an_Counts_of_length : Option Addr} {sl_Counts_of_length : Array (Option Value)}
    {f_Counts_behind : Addr} {oc_Counts_behind kV_Counts_behind dc_Counts_behind pm_Counts_behind cd_Counts_behind ct_Counts_behind : Value} {od_Counts_behind an_Counts_behind : Option Addr} {sl_Counts_behind : Array (Option Value)}
    {f_Counts_grow : Addr} {oc_Counts_grow kV_Counts_grow dc_Counts_grow pm_Counts_grow cd_Counts_grow ct_Counts_grow : Value} {od_Counts_grow an_Counts_grow : Option Addr} {sl_Counts_grow : Array (Option Value)}
    {t_MOST_LENGTH : Tok}
    (a0 : PySem.W.nsIn K mainGlobals "is_number" = some (some (.ref f0))) (l0 : K.lookup f0 = some ⟨oc0, od0, .func (PySem.W.fnOf "is_number" "is_number" (defArgs s_is_number) (defBody s_is_number) (defScope s_is_number) .none kV0 dc0 pm0 an0 cd0 ct0), sl0⟩) (c0 : PySem.W.codeIn K cd0 "is_number" = true) (k0 : PySem.W.keepIn K (.ref f0) = true)
    (a1 : PySem.W.nsIn K mainGlobals "is_within" = some (some (.ref f1))) (l1 : K.lookup f1 = some ⟨oc1, od1, .func (PySem.W.fnOf "is_within" "is_within" (defArgs s_is_within) (defBody s_is_within) (defScope s_is_within) .none kV1 dc1 pm1 an1 cd1 ct1), sl1⟩) (c1 : PySem.W.codeIn K cd1 "is_within" = true) (k1 : PySem.W.keepIn K (.ref f1) = true)
    (a2 : PySem.W.nsIn K mainGlobals "is_pair" = some (some (.ref f2))) (l2 : K.lookup f2 = some ⟨oc2, od2, .func (PySem.W.fnOf "is_pair" "is_pair" (defArgs s_is_pair) (defBody s_is_pair) (defScope s_is_pair) .none kV2 dc2 pm2 an2 cd2 ct2), sl2⟩) (c2 : PySem.W.codeIn K cd2 "is_pair" = true) (k2 : PySem.W.keepIn K (.ref f2) = true)
    (a3 : PySem.W.nsIn K mainGlobals "is_machine" = some (some (.ref f3))) (l3 : K.lookup f3 = some ⟨oc3, od3, .func (PySem.W.fnOf "is_machine" "is_machine" (defArgs s_is_machine) (defBody s_is_machine) (defScope s_is_machine) .none kV3 dc3 pm3 an3 cd3 ct3), sl3⟩) (c3 : PySem.W.codeIn K cd3 "is_machine" = true) (k3 : PySem.W.keepIn K (.ref f3) = true)
    (a4 : PySem.W.nsIn K mainGlobals "is_framed" = some (some (.ref f4))) (l4 : K.lookup f4 = some ⟨oc4, od4, .func (PySem.W.fnOf "is_framed" "is_framed" (defArgs s_is_framed) (defBody s_is_framed) (defScope s_is_framed) .none kV4 dc4 pm4 an4 cd4 ct4), sl4⟩) (c4 : PySem.W.codeIn K cd4 "is_framed" = true) (k4 : PySem.W.keepIn K (.ref f4) = true)
    (a5 : PySem.W.nsIn K mainGlobals "is_size" = some (some (.ref f5))) (l5 : K.lookup f5 = some ⟨oc5, od5, .func (PySem.W.fnOf "is_size" "is_size" (defArgs s_is_size) (defBody s_is_size) (defScope s_is_size) .none kV5 dc5 pm5 an5 cd5 ct5), sl5⟩) (c5 : PySem.W.codeIn K cd5 "is_size" = true) (k5 : PySem.W.keepIn K (.ref f5) = true)
    (a6 : PySem.W.nsIn K mainGlobals "is_row" = some (some (.ref f6))) (l6 : K.lookup f6 = some ⟨oc6, od6, .func (PySem.W.fnOf "is_row" "is_row" (defArgs s_is_row) (defBody s_is_row) (defScope s_is_row) .none kV6 dc6 pm6 an6 cd6 ct6), sl6⟩) (c6 : PySem.W.codeIn K cd6 "is_row" = true) (k6 : PySem.W.keepIn K (.ref f6) = true)
    (a7 : PySem.W.nsIn K mainGlobals "is_step" = some (some (.ref f7))) (l7 : K.lookup f7 = some ⟨oc7, od7, .func (PySem.W.fnOf "is_step" "is_step" (defArgs s_is_step) (defBody s_is_step) (defScope s_is_step) .none kV7 dc7 pm7 an7 cd7 ct7), sl7⟩) (c7 : PySem.W.codeIn K cd7 "is_step" = true) (k7 : PySem.W.keepIn K (.ref f7) = true)
    (a8 : PySem.W.nsIn K mainGlobals "demand_machine" = some (some (.ref f8))) (l8 : K.lookup f8 = some ⟨oc8, od8, .func (PySem.W.fnOf "demand_machine" "demand_machine" (defArgs s_demand_machine) (defBody s_demand_machine) (defScope s_demand_machine) .none kV8 dc8 pm8 an8 cd8 ct8), sl8⟩) (c8 : PySem.W.codeIn K cd8 "demand_machine" = true) (k8 : PySem.W.keepIn K (.ref f8) = true)
    (a9 : PySem.W.nsIn K mainGlobals "trimmed" = some (some (.ref f9))) (l9 : K.lookup f9 = some ⟨oc9, od9, .func (PySem.W.fnOf "trimmed" "trimmed" (defArgs s_trimmed) (defBody s_trimmed) (defScope s_trimmed) .none kV9 dc9 pm9 an9 cd9 ct9), sl9⟩) (c9 : PySem.W.codeIn K cd9 "trimmed" = true) (k9 : PySem.W.keepIn K (.ref f9) = true)
    (a10 : PySem.W.nsIn K mainGlobals "trimmed_of" = some (some (.ref f10))) (l10 : K.lookup f10 = some ⟨oc10, od10, .func (PySem.W.fnOf "trimmed_of" "trimmed_of" (defArgs s_trimmed_of) (defBody s_trimmed_of) (defScope s_trimmed_of) .none kV10 dc10 pm10 an10 cd10 ct10), sl10⟩) (c10 : PySem.W.codeIn K cd10 "trimmed_of" = true) (k10 : PySem.W.keepIn K (.ref f10) = true)
    (a11 : PySem.W.nsIn K mainGlobals "textless" = some (some (.ref f11))) (l11 : K.lookup f11 = some ⟨oc11, od11, .func (PySem.W.fnOf "textless" "textless" (defArgs s_textless) (defBody s_textless) (defScope s_textless) .none kV11 dc11 pm11 an11 cd11 ct11), sl11⟩) (c11 : PySem.W.codeIn K cd11 "textless" = true) (k11 : PySem.W.keepIn K (.ref f11) = true)
    (a12 : PySem.W.nsIn K mainGlobals "nexts" = some (some (.ref f12))) (l12 : K.lookup f12 = some ⟨oc12, od12, .func (PySem.W.fnOf "nexts" "nexts" (defArgs s_nexts) (defBody s_nexts) (defScope s_nexts) .none kV12 dc12 pm12 an12 cd12 ct12), sl12⟩) (c12 : PySem.W.codeIn K cd12 "nexts" = true) (k12 : PySem.W.keepIn K (.ref f12) = true)
    (a13 : PySem.W.nsIn K mainGlobals "befores" = some (some (.ref f13))) (l13 : K.lookup f13 = some ⟨oc13, od13, .func (PySem.W.fnOf "befores" "befores" (defArgs s_befores) (defBody s_befores) (defScope s_befores) .none kV13 dc13 pm13 an13 cd13 ct13), sl13⟩) (c13 : PySem.W.codeIn K cd13 "befores" = true) (k13 : PySem.W.keepIn K (.ref f13) = true)
    (a14 : PySem.W.nsIn K mainGlobals "spread" = some (some (.ref f14))) (l14 : K.lookup f14 = some ⟨oc14, od14, .func (PySem.W.fnOf "spread" "spread" (defArgs s_spread) (defBody s_spread) (defScope s_spread) .none kV14 dc14 pm14 an14 cd14 ct14), sl14⟩) (c14 : PySem.W.codeIn K cd14 "spread" = true) (k14 : PySem.W.keepIn K (.ref f14) = true)
    (a15 : PySem.W.nsIn K mainGlobals "renumbered" = some (some (.ref f15))) (l15 : K.lookup f15 = some ⟨oc15, od15, .func (PySem.W.fnOf "renumbered" "renumbered" (defArgs s_renumbered) (defBody s_renumbered) (defScope s_renumbered) .none kV15 dc15 pm15 an15 cd15 ct15), sl15⟩) (c15 : PySem.W.codeIn K cd15 "renumbered" = true) (k15 : PySem.W.keepIn K (.ref f15) = true)
    (a16 : PySem.W.nsIn K mainGlobals "renumbered_step" = some (some (.ref f16))) (l16 : K.lookup f16 = some ⟨oc16, od16, .func (PySem.W.fnOf "renumbered_step" "renumbered_step" (defArgs s_renumbered_step) (defBody s_renumbered_step) (defScope s_renumbered_step) .none kV16 dc16 pm16 an16 cd16 ct16), sl16⟩) (c16 : PySem.W.codeIn K cd16 "renumbered_step" = true) (k16 : PySem.W.keepIn K (.ref f16) = true)
    (a17 : PySem.W.nsIn K mainGlobals "idle" = some (some (.ref f17))) (l17 : K.lookup f17 = some ⟨oc17, od17, .func (PySem.W.fnOf "idle" "idle" (defArgs s_idle) (defBody s_idle) (defScope s_idle) .none kV17 dc17 pm17 an17 cd17 ct17), sl17⟩) (c17 : PySem.W.codeIn K cd17 "idle" = true) (k17 : PySem.W.keepIn K (.ref f17) = true)
    (a18 : PySem.W.nsIn K mainGlobals "idle_round" = some (some (.ref f18))) (l18 : K.lookup f18 = some ⟨oc18, od18, .func (PySem.W.fnOf "idle_round" "idle_round" (defArgs s_idle_round) (defBody s_idle_round) (defScope s_idle_round) .none kV18 dc18 pm18 an18 cd18 ct18), sl18⟩) (c18 : PySem.W.codeIn K cd18 "idle_round" = true) (k18 : PySem.W.keepIn K (.ref f18) = true)
    (a19 : PySem.W.nsIn K mainGlobals "total" = some (some (.ref f19))) (l19 : K.lookup f19 = some ⟨oc19, od19, .func (PySem.W.fnOf "total" "total" (defArgs s_total) (defBody s_total) (defScope s_total) .none kV19 dc19 pm19 an19 cd19 ct19), sl19⟩) (c19 : PySem.W.codeIn K cd19 "total" = true) (k19 : PySem.W.keepIn K (.ref f19) = true)
    (a20 : PySem.W.nsIn K mainGlobals "worths" = some (some (.ref f20))) (l20 : K.lookup f20 = some ⟨oc20, od20, .func (PySem.W.fnOf "worths" "worths" (defArgs s_worths) (defBody s_worths) (defScope s_worths) .none kV20 dc20 pm20 an20 cd20 ct20), sl20⟩) (c20 : PySem.W.codeIn K cd20 "worths" = true) (k20 : PySem.W.keepIn K (.ref f20) = true)
    (a21 : PySem.W.nsIn K mainGlobals "kept" = some (some (.ref f21))) (l21 : K.lookup f21 = some ⟨oc21, od21, .func (PySem.W.fnOf "kept" "kept" (defArgs s_kept) (defBody s_kept) (defScope s_kept) .none kV21 dc21 pm21 an21 cd21 ct21), sl21⟩) (c21 : PySem.W.codeIn K cd21 "kept" = true) (k21 : PySem.W.keepIn K (.ref f21) = true)
    (a22 : PySem.W.nsIn K mainGlobals "lowest" = some (some (.ref f22))) (l22 : K.lookup f22 = some ⟨oc22, od22, .func (PySem.W.fnOf "lowest" "lowest" (defArgs s_lowest) (defBody s_lowest) (defScope s_lowest) .none kV22 dc22 pm22 an22 cd22 ct22), sl22⟩) (c22 : PySem.W.codeIn K cd22 "lowest" = true) (k22 : PySem.W.keepIn K (.ref f22) = true)
    (a23 : PySem.W.nsIn K mainGlobals "shares" = some (some (.ref f23))) (l23 : K.lookup f23 = some ⟨oc23, od23, .func (PySem.W.fnOf "shares" "shares" (defArgs s_shares) (defBody s_shares) (defScope s_shares) .none kV23 dc23 pm23 an23 cd23 ct23), sl23⟩) (c23 : PySem.W.codeIn K cd23 "shares" = true) (k23 : PySem.W.keepIn K (.ref f23) = true)
    (a24 : PySem.W.nsIn K mainGlobals "equation" = some (some (.ref f24))) (l24 : K.lookup f24 = some ⟨oc24, od24, .func (PySem.W.fnOf "equation" "equation" (defArgs s_equation) (defBody s_equation) (defScope s_equation) .none kV24 dc24 pm24 an24 cd24 ct24), sl24⟩) (c24 : PySem.W.codeIn K cd24 "equation" = true) (k24 : PySem.W.keepIn K (.ref f24) = true)
    (a25 : PySem.W.nsIn K mainGlobals "solved" = some (some (.ref f25))) (l25 : K.lookup f25 = some ⟨oc25, od25, .func (PySem.W.fnOf "solved" "solved" (defArgs s_solved) (defBody s_solved) (defScope s_solved) .none kV25 dc25 pm25 an25 cd25 ct25), sl25⟩) (c25 : PySem.W.codeIn K cd25 "solved" = true) (k25 : PySem.W.keepIn K (.ref f25) = true)
    (a26 : PySem.W.nsIn K mainGlobals "cleared" = some (some (.ref f26))) (l26 : K.lookup f26 = some ⟨oc26, od26, .func (PySem.W.fnOf "cleared" "cleared" (defArgs s_cleared) (defBody s_cleared) (defScope s_cleared) .none kV26 dc26 pm26 an26 cd26 ct26), sl26⟩) (c26 : PySem.W.codeIn K cd26 "cleared" = true) (k26 : PySem.W.keepIn K (.ref f26) = true)
    (a27 : PySem.W.nsIn K mainGlobals "gathered" = some (some (.ref f27))) (l27 : K.lookup f27 = some ⟨oc27, od27, .func (PySem.W.fnOf "gathered" "gathered" (defArgs s_gathered) (defBody s_gathered) (defScope s_gathered) .none kV27 dc27 pm27 an27 cd27 ct27), sl27⟩) (c27 : PySem.W.codeIn K cd27 "gathered" = true) (k27 : PySem.W.keepIn K (.ref f27) = true)
    (a28 : PySem.W.nsIn K mainGlobals "states_in_turn" = some (some (.ref f28))) (l28 : K.lookup f28 = some ⟨oc28, od28, .func (PySem.W.fnOf "states_in_turn" "states_in_turn" (defArgs s_states_in_turn) (defBody s_states_in_turn) (defScope s_states_in_turn) .none kV28 dc28 pm28 an28 cd28 ct28), sl28⟩) (c28 : PySem.W.codeIn K cd28 "states_in_turn" = true) (k28 : PySem.W.keepIn K (.ref f28) = true)
    (a29 : PySem.W.nsIn K mainGlobals "demand_length" = some (some (.ref f29))) (l29 : K.lookup f29 = some ⟨oc29, od29, .func (PySem.W.fnOf "demand_length" "demand_length" (defArgs s_demand_length) (defBody s_demand_length) (defScope s_demand_length) .none kV29 dc29 pm29 an29 cd29 ct29), sl29⟩) (c29 : PySem.W.codeIn K cd29 "demand_length" = true) (k29 : PySem.W.keepIn K (.ref f29) = true)
    (a30 : PySem.W.nsIn K mainGlobals "demand_busy" = some (some (.ref f30))) (l30 : K.lookup f30 = some ⟨oc30, od30, .func (PySem.W.fnOf "demand_busy" "demand_busy" (defArgs s_demand_busy) (defBody s_demand_busy) (defScope s_demand_busy) .none kV30 dc30 pm30 an30 cd30 ct30), sl30⟩) (c30 : PySem.W.codeIn K cd30 "demand_busy" = true) (k30 : PySem.W.keepIn K (.ref f30) = true)
    (a31 : PySem.W.nsIn K mainGlobals "many" = some (some (.ref f31))) (l31 : K.lookup f31 = some ⟨oc31, od31, .func (PySem.W.fnOf "many" "many" (defArgs s_many) (defBody s_many) (defScope s_many) .none kV31 dc31 pm31 an31 cd31 ct31), sl31⟩) (c31 : PySem.W.codeIn K cd31 "many" = true) (k31 : PySem.W.keepIn K (.ref f31) = true)
    (a32 : PySem.W.nsIn K mainGlobals "_law_pot" = some (some (.ref f32))) (l32 : K.lookup f32 = some ⟨oc32, od32, .func (PySem.W.fnOf "_law_pot" "_law_pot" (defArgs s_law_pot) (defBody s_law_pot) (defScope s_law_pot) .none kV32 dc32 pm32 an32 cd32 ct32), sl32⟩) (c32 : PySem.W.codeIn K cd32 "_law_pot" = true) (k32 : PySem.W.keepIn K (.ref f32) = true)
    (a33 : PySem.W.nsIn K mainGlobals "_law_draw" = some (some (.ref f33))) (l33 : K.lookup f33 = some ⟨oc33, od33, .func (PySem.W.fnOf "_law_draw" "_law_draw" (defArgs s_law_draw) (defBody s_law_draw) (defScope s_law_draw) .none kV33 dc33 pm33 an33 cd33 ct33), sl33⟩) (c33 : PySem.W.codeIn K cd33 "_law_draw" = true) (k33 : PySem.W.keepIn K (.ref f33) = true)
    (a34 : PySem.W.nsIn K mainGlobals "_law_any" = some (some (.ref f34))) (l34 : K.lookup f34 = some ⟨oc34, od34, .func (PySem.W.fnOf "_law_any" "_law_any" (defArgs s_law_any) (defBody s_law_any) (defScope s_law_any) .none kV34 dc34 pm34 an34 cd34 ct34), sl34⟩) (c34 : PySem.W.codeIn K cd34 "_law_any" = true) (k34 : PySem.W.keepIn K (.ref f34) = true)
    (a35 : PySem.W.nsIn K mainGlobals "_law_power" = some (some (.ref f35))) (l35 : K.lookup f35 = some ⟨oc35, od35, .func (PySem.W.fnOf "_law_power" "_law_power" (defArgs s_law_power) (defBody s_law_power) (defScope s_law_power) .none kV35 dc35 pm35 an35 cd35 ct35), sl35⟩) (c35 : PySem.W.codeIn K cd35 "_law_power" = true) (k35 : PySem.W.keepIn K (.ref f35) = true)
    (a36 : PySem.W.nsIn K mainGlobals "_law_machine" = some (some (.ref f36))) (l36 : K.lookup f36 = some ⟨oc36, od36, .func (PySem.W.fnOf "_law_machine" "_law_machine" (defArgs s_law_machine) (defBody s_law_machine) (defScope s_law_machine) .none kV36 dc36 pm36 an36 cd36 ct36), sl36⟩) (c36 : PySem.W.codeIn K cd36 "_law_machine" = true) (k36 : PySem.W.keepIn K (.ref f36) = true)
    (a37 : PySem.W.nsIn K mainGlobals "_law_menu" = some (some (.ref f37))) (l37 : K.lookup f37 = some ⟨oc37, od37, .func (PySem.W.fnOf "_law_menu" "_law_menu" (defArgs s_law_menu) (defBody s_law_menu) (defScope s_law_menu) .none kV37 dc37 pm37 an37 cd37 ct37), sl37⟩) (c37 : PySem.W.codeIn K cd37 "_law_menu" = true) (k37 : PySem.W.keepIn K (.ref f37) = true)
    (a38 : PySem.W.nsIn K mainGlobals "_law_trim" = some (some (.ref f38))) (l38 : K.lookup f38 = some ⟨oc38, od38, .func (PySem.W.fnOf "_law_trim" "_law_trim" (defArgs s_law_trim) (defBody s_law_trim) (defScope s_law_trim) .none kV38 dc38 pm38 an38 cd38 ct38), sl38⟩) (c38 : PySem.W.codeIn K cd38 "_law_trim" = true) (k38 : PySem.W.keepIn K (.ref f38) = true)
    (a39 : PySem.W.nsIn K mainGlobals "_law_gcd" = some (some (.ref f39))) (l39 : K.lookup f39 = some ⟨oc39, od39, .func (PySem.W.fnOf "_law_gcd" "_law_gcd" (defArgs s_law_gcd) (defBody s_law_gcd) (defScope s_law_gcd) .none kV39 dc39 pm39 an39 cd39 ct39), sl39⟩) (c39 : PySem.W.codeIn K cd39 "_law_gcd" = true) (k39 : PySem.W.keepIn K (.ref f39) = true)
    (a40 : PySem.W.nsIn K mainGlobals "_law_reduced" = some (some (.ref f40))) (l40 : K.lookup f40 = some ⟨oc40, od40, .func (PySem.W.fnOf "_law_reduced" "_law_reduced" (defArgs s_law_reduced) (defBody s_law_reduced) (defScope s_law_reduced) .none kV40 dc40 pm40 an40 cd40 ct40), sl40⟩) (c40 : PySem.W.codeIn K cd40 "_law_reduced" = true) (k40 : PySem.W.keepIn K (.ref f40) = true)
    (a41 : PySem.W.nsIn K mainGlobals "_law_plus" = some (some (.ref f41))) (l41 : K.lookup f41 = some ⟨oc41, od41, .func (PySem.W.fnOf "_law_plus" "_law_plus" (defArgs s_law_plus) (defBody s_law_plus) (defScope s_law_plus) .none kV41 dc41 pm41 an41 cd41 ct41), sl41⟩) (c41 : PySem.W.codeIn K cd41 "_law_plus" = true) (k41 : PySem.W.keepIn K (.ref f41) = true)
    (a42 : PySem.W.nsIn K mainGlobals "_law_lighter" = some (some (.ref f42))) (l42 : K.lookup f42 = some ⟨oc42, od42, .func (PySem.W.fnOf "_law_lighter" "_law_lighter" (defArgs s_law_lighter) (defBody s_law_lighter) (defScope s_law_lighter) .none kV42 dc42 pm42 an42 cd42 ct42), sl42⟩) (c42 : PySem.W.codeIn K cd42 "_law_lighter" = true) (k42 : PySem.W.keepIn K (.ref f42) = true)
    (a43 : PySem.W.nsIn K mainGlobals "_law_worths" = some (some (.ref f43))) (l43 : K.lookup f43 = some ⟨oc43, od43, .func (PySem.W.fnOf "_law_worths" "_law_worths" (defArgs s_law_worths) (defBody s_law_worths) (defScope s_law_worths) .none kV43 dc43 pm43 an43 cd43 ct43), sl43⟩) (c43 : PySem.W.codeIn K cd43 "_law_worths" = true) (k43 : PySem.W.keepIn K (.ref f43) = true)
    (a44 : PySem.W.nsIn K mainGlobals "_law_idle" = some (some (.ref f44))) (l44 : K.lookup f44 = some ⟨oc44, od44, .func (PySem.W.fnOf "_law_idle" "_law_idle" (defArgs s_law_idle) (defBody s_law_idle) (defScope s_law_idle) .none kV44 dc44 pm44 an44 cd44 ct44), sl44⟩) (c44 : PySem.W.codeIn K cd44 "_law_idle" = true) (k44 : PySem.W.keepIn K (.ref f44) = true)
    (a45 : PySem.W.nsIn K mainGlobals "_law_counted" = some (some (.ref f45))) (l45 : K.lookup f45 = some ⟨oc45, od45, .func (PySem.W.fnOf "_law_counted" "_law_counted" (defArgs s_law_counted) (defBody s_law_counted) (defScope s_law_counted) .none kV45 dc45 pm45 an45 cd45 ct45), sl45⟩) (c45 : PySem.W.codeIn K cd45 "_law_counted" = true) (k45 : PySem.W.keepIn K (.ref f45) = true)
    (a46 : PySem.W.nsIn K mainGlobals "_law_stepped" = some (some (.ref f46))) (l46 : K.lookup f46 = some ⟨oc46, od46, .func (PySem.W.fnOf "_law_stepped" "_law_stepped" (defArgs s_law_stepped) (defBody s_law_stepped) (defScope s_law_stepped) .none kV46 dc46 pm46 an46 cd46 ct46), sl46⟩) (c46 : PySem.W.codeIn K cd46 "_law_stepped" = true) (k46 : PySem.W.keepIn K (.ref f46) = true)
    (a47 : PySem.W.nsIn K mainGlobals "_law_ends" = some (some (.ref f47))) (l47 : K.lookup f47 = some ⟨oc47, od47, .func (PySem.W.fnOf "_law_ends" "_law_ends" (defArgs s_law_ends) (defBody s_law_ends) (defScope s_law_ends) .none kV47 dc47 pm47 an47 cd47 ct47), sl47⟩) (c47 : PySem.W.codeIn K cd47 "_law_ends" = true) (k47 : PySem.W.keepIn K (.ref f47) = true)
    (a48 : PySem.W.nsIn K mainGlobals "_law_is_less" = some (some (.ref f48))) (l48 : K.lookup f48 = some ⟨oc48, od48, .func (PySem.W.fnOf "_law_is_less" "_law_is_less" (defArgs s_law_is_less) (defBody s_law_is_less) (defScope s_law_is_less) .none kV48 dc48 pm48 an48 cd48 ct48), sl48⟩) (c48 : PySem.W.codeIn K cd48 "_law_is_less" = true) (k48 : PySem.W.keepIn K (.ref f48) = true)
    (a49 : PySem.W.nsIn K mainGlobals "_law_closed_in" = some (some (.ref f49))) (l49 : K.lookup f49 = some ⟨oc49, od49, .func (PySem.W.fnOf "_law_closed_in" "_law_closed_in" (defArgs s_law_closed_in) (defBody s_law_closed_in) (defScope s_law_closed_in) .none kV49 dc49 pm49 an49 cd49 ct49), sl49⟩) (c49 : PySem.W.codeIn K cd49 "_law_closed_in" = true) (k49 : PySem.W.keepIn K (.ref f49) = true)
    (a50 : PySem.W.nsIn K mainGlobals "_law_lengths_right" = some (some (.ref f50))) (l50 : K.lookup f50 = some ⟨oc50, od50, .func (PySem.W.fnOf "_law_lengths_right" "_law_lengths_right" (defArgs s_law_lengths_right) (defBody s_law_lengths_right) (defScope s_law_lengths_right) .none kV50 dc50 pm50 an50 cd50 ct50), sl50⟩) (c50 : PySem.W.codeIn K cd50 "_law_lengths_right" = true) (k50 : PySem.W.keepIn K (.ref f50) = true)
    (a51 : PySem.W.nsIn K mainGlobals "law" = some (some (.ref f51))) (l51 : K.lookup f51 = some ⟨oc51, od51, .func (PySem.W.fnOf "law" "law" (defArgs s_law) (defBody s_law) (defScope s_law) .none kV51 dc51 pm51 an51 cd51 ct51), sl51⟩) (c51 : PySem.W.codeIn K cd51 "law" = true) (k51 : PySem.W.keepIn K (.ref f51) = true)
    (q_Counts : PySem.W.nsIn K mainGlobals "Counts" = some (some (.ref C_Counts)))
    (a_Counts___init__ : PySem.W.findIn K (.ref C_Counts) "__init__" = some (some (.ref f_Counts___init__))) (i_Counts___init__ : PySem.W.isFn K (.ref f_Counts___init__) = true) (l_Counts___init__ : K.lookup f_Counts___init__ = some ⟨oc_Counts___init__, od_Counts___init__, .func (PySem.W.fnOf "__init__" "Counts.__init__" (defArgs s_Counts___init__) (defBody s_Counts___init__) (defScope s_Counts___init__) .none kV_Counts___init__ dc_Counts___init__ pm_Counts___init__ an_Counts___init__ cd_Counts___init__ ct_Counts___init__), sl_Counts___init__⟩) (c_Counts___init__ : PySem.W.codeIn K cd_Counts___init__ "Counts.__init__" = true) (k_Counts___init__ : PySem.W.keepIn K (.ref f_Counts___init__) = true)
    (a_Counts_of_length : PySem.W.findIn K (.ref C_Counts) "of_length" = some (some (.ref f_Counts_of_length))) (i_Counts_of_length : PySem.W.isFn K (.ref f_Counts_of_length) = true) (l_Counts_of_length : K.lookup f_Counts_of_length = some ⟨oc_Counts_of_length, od_Counts_of_length, .func (PySem.W.fnOf "of_length" "Counts.of_length" (defArgs s_Counts_of_length) (defBody s_Counts_of_length) (defScope s_Counts_of_length) .none kV_Counts_of_length dc_Counts_of_length pm_Counts_of_length an_Counts_of_length cd_Counts_of_length ct_Counts_of_length), sl_Counts_of_length⟩) (c_Counts_of_length : PySem.W.codeIn K cd_Counts_of_length "Counts.of_length" = true) (k_Counts_of_length : PySem.W.keepIn K (.ref f_Counts_of_length) = true)
    (a_Counts_behind : PySem.W.findIn K (.ref C_Counts) "behind" = some (some (.ref f_Counts_behind))) (i_Counts_behind : PySem.W.isFn K (.ref f_Counts_behind) = true) (l_Counts_behind : K.lookup f_Counts_behind = some ⟨oc_Counts_behind, od_Counts_behind, .func (PySem.W.fnOf "behind" "Counts.behind" (defArgs s_Counts_behind) (defBody s_Counts_behind) (defScope s_Counts_behind) .none kV_Counts_behind dc_Counts_behind pm_Counts_behind an_Counts_behind cd_Counts_behind ct_Counts_behind), sl_Counts_behind⟩) (c_Counts_behind : PySem.W.codeIn K cd_Counts_behind "Counts.behind" = true) (k_Counts_behind : PySem.W.keepIn K (.ref f_Counts_behind) = true)
    (a_Counts_grow : PySem.W.findIn K (.ref C_Counts) "grow" = some (some (.ref f_Counts_grow))) (i_Counts_grow : PySem.W.isFn K (.ref f_Counts_grow) = true) (l_Counts_grow : K.lookup f_Counts_grow = some ⟨oc_Counts_grow, od_Counts_grow, .func (PySem.W.fnOf "grow" "Counts.grow" (defArgs s_Counts_grow) (defBody s_Counts_grow) (defScope s_Counts_grow) .none kV_Counts_grow dc_Counts_grow pm_Counts_grow an_Counts_grow cd_Counts_grow ct_Counts_grow), sl_Counts_grow⟩) (c_Counts_grow : PySem.W.codeIn K cd_Counts_grow "Counts.grow" = true) (k_Counts_grow : PySem.W.keepIn K (.ref f_Counts_grow) = true)
    (pg_Counts : PySem.W.plainGet K C_Counts Str.empty = true) (hd_Counts : PySem.W.hasDictIn K C_Counts = true) (po_Counts : PySem.W.plainOver K C_Counts = true) (sa_Counts : PySem.W.findIn K (.ref C_Counts) "__setattr__" = some (some (.builtin "object.__setattr__"))) (mk_Counts : PySem.W.makesIn K C_Counts = true) (kc_Counts : PySem.W.keepIn K (.ref C_Counts) = true)
    (n_Counts_rows : PySem.W.findIn K (.ref C_Counts) "rows" = some none)
    (n_Counts_ways : PySem.W.findIn K (.ref C_Counts) "ways" = some none)
    (n_Counts_order : PySem.W.findIn K (.ref C_Counts) "order" = some none)
    (n_Counts_table : PySem.W.findIn K (.ref C_Counts) "table" = some none)
    (m_MOST_LENGTH : PySem.W.nsIn K mainGlobals "MOST_LENGTH" = some (some (.int 4000 t_MOST_LENGTH)))
    (m1 : PySem.W.nsIn K mainGlobals "MOST_LETTERS" = some (some (.int 8 t1))) (m2 : PySem.W.nsIn K mainGlobals "MOST_STATES" = some (some (.int 30 t2))) (m3 : PySem.W.nsIn K mainGlobals "MOST_BITS" = some (some (.int 60 t3)))
    (p_NoMachine : PySem.W.nsIn K mainGlobals "NoMachine" = some (some (.ref C_NoMachine))) (x_NoMachine : PySem.W.excIn K C_NoMachine [.type "ValueError", .type "Exception", .type "BaseException", .type "object"] "ValueError.__new__" = true) (k_NoMachine : PySem.W.keepIn K (.ref C_NoMachine) = true) (b_NoMachine : PySem.W.subIn K (.ref C_NoMachine) (.type "BaseException") = some true) (t_NoMachine : PySem.W.typeIn K (.ref C_NoMachine) = some (.type "type")) (i_NoMachine : PySem.W.isClsIn K C_NoMachine = true) (s_NoMachine : PySem.W.subIn K (.ref C_NoMachine) (.ref C_NoMachine) = some true)
    (p_NoNumber : PySem.W.nsIn K mainGlobals "NoNumber" = some (some (.ref C_NoNumber))) (x_NoNumber : PySem.W.excIn K C_NoNumber [.type "ValueError", .type "Exception", .type "BaseException", .type "object"] "ValueError.__new__" = true) (k_NoNumber : PySem.W.keepIn K (.ref C_NoNumber) = true) (b_NoNumber : PySem.W.subIn K (.ref C_NoNumber) (.type "BaseException") = some true) (t_NoNumber : PySem.W.typeIn K (.ref C_NoNumber) = some (.type "type")) (i_NoNumber : PySem.W.isClsIn K C_NoNumber = true) (s_NoNumber : PySem.W.subIn K (.ref C_NoNumber) (.ref C_NoNumber) = some true)
    (p_Idle : PySem.W.nsIn K mainGlobals "Idle" = some (some (.ref C_Idle))) (x_Idle : PySem.W.excIn K C_Idle [.type "ValueError", .type "Exception", .type "BaseException", .type "object"] "ValueError.__new__" = true) (k_Idle : PySem.W.keepIn K (.ref C_Idle) = true) (b_Idle : PySem.W.subIn K (.ref C_Idle) (.type "BaseException") = some true) (t_Idle : PySem.W.typeIn K (.ref C_Idle) = some (.type "type")) (i_Idle : PySem.W.isClsIn K C_Idle = true) (s_Idle : PySem.W.subIn K (.ref C_Idle) (.ref C_Idle) = some true)
    (v_gcd : PySem.W.nsIn K mainGlobals "gcd" = some (some (.builtin "math.gcd")))
    (v_zip : PySem.W.nsIn K mainGlobals "zip" = some none)
    (v_abs : PySem.W.nsIn K mainGlobals "abs" = some none)
    (v_dict : PySem.W.nsIn K mainGlobals "dict" = some none)
    (z0 : PySem.W.nsIn K mainGlobals "len" = some none) (z1 : PySem.W.nsIn K mainGlobals "isinstance" = some none) (z2 : PySem.W.nsIn K mainGlobals "int" = some none) (z3 : PySem.W.nsIn K mainGlobals "bool" = some none) (z4 : PySem.W.nsIn K mainGlobals "str" = some none) (z5 : PySem.W.nsIn K mainGlobals "tuple" = some none) (z6 : PySem.W.nsIn K mainGlobals "list" = some none) (z7 : PySem.W.nsIn K mainGlobals "range" = some none) (z8 : PySem.W.nsIn K mainGlobals "all" = some none) (z9 : PySem.W.nsIn K mainGlobals "sum" = some none) (z10 : PySem.W.nsIn K mainGlobals "repr" = some none) (z11 : PySem.W.nsIn K mainGlobals "enumerate" = some none) (z12 : PySem.W.nsIn K mainGlobals "sorted" = some none) (z13 : PySem.W.nsIn K mainGlobals "any" = some none) (z14 : PySem.W.nsIn K mainGlobals "set" = some none) : Facts K mg fa := by
  have e := hfa.symm.trans (PySem.W.mg_of X G a51)
  cases e
  have F := fun_mk (st := s_law) l51 c51 k51
  exact ⟨⟨PySem.W.mg_none_of X G z0, PySem.W.mg_none_of X G z1, PySem.W.mg_none_of X G z2, PySem.W.mg_none_of X G z3, PySem.W.mg_none_of X G z4, PySem.W.mg_none_of X G z5, PySem.W.mg_none_of X G z6, PySem.W.mg_none_of X G z7, PySem.W.mg_none_of X G z8, PySem.W.mg_none_of X G z9, PySem.W.mg_none_of X G z10, PySem.W.mg_none_of X G z11, PySem.W.mg_none_of X G z12, PySem.W.mg_none_of X G z13, PySem.W.mg_none_of X G z14⟩, ⟨_, _, _, PySem.W.mg_of X G m1, PySem.W.mg_of X G m2, PySem.W.mg_of X G m3⟩, ⟨C_NoMachine, C_NoNumber, C_Idle, ⟨PySem.W.mg_of X G p_NoMachine, x_NoMachine, k_NoMachine, b_NoMachine, t_NoMachine, caught b_NoMachine i_NoMachine t_NoMachine s_NoMachine⟩, ⟨PySem.W.mg_of X G p_NoNumber, x_NoNumber, k_NoNumber, b_NoNumber, t_NoNumber, caught b_NoNumber i_NoNumber t_NoNumber s_NoNumber⟩, ⟨PySem.W.mg_of X G p_Idle, x_Idle, k_Idle, b_Idle, t_Idle, caught b_Idle i_Idle t_Idle s_Idle⟩⟩, ⟨PySem.W.mg_of X G v_gcd, PySem.W.mg_none_of X G v_zip⟩, ⟨PySem.W.mg_none_of X G v_abs⟩, ⟨PySem.W.mg_none_of X G v_dict⟩,
    ⟨_, ⟨⟨pg_Counts, hd_Counts, po_Counts, sa_Counts⟩, n_Counts_rows, n_Counts_ways, n_Counts_order, n_Counts_table⟩, ⟨_, _, (fun_mk (st := s_Counts___init__) l_Counts___init__ c_Counts___init__ k_Counts___init__), ⟨mk_Counts, a_Counts___init__, i_Counts___init__, kc_Counts⟩, ((fun_mk (st := s_Counts___init__) l_Counts___init__ c_Counts___init__ k_Counts___init__).binds (ps := ["self", "machine"]) fun _ _ _ _ _ _ us hl => match us, hl with | [_, _], _ => rfl), PySem.W.mg_of X G q_Counts⟩, ⟨_, _, (fun_mk (st := s_Counts_of_length) l_Counts_of_length c_Counts_of_length k_Counts_of_length), ⟨a_Counts_of_length, i_Counts_of_length, k_Counts_of_length⟩, ((fun_mk (st := s_Counts_of_length) l_Counts_of_length c_Counts_of_length k_Counts_of_length).binds (ps := ["self", "bits"]) fun _ _ _ _ _ _ us hl => match us, hl with | [_, _], _ => rfl)⟩, ⟨_, _, (fun_mk (st := s_Counts_behind) l_Counts_behind c_Counts_behind k_Counts_behind), ⟨a_Counts_behind, i_Counts_behind, k_Counts_behind⟩, ((fun_mk (st := s_Counts_behind) l_Counts_behind c_Counts_behind k_Counts_behind).binds (ps := ["self", "step", "bits"]) fun _ _ _ _ _ _ us hl => match us, hl with | [_, _, _], _ => rfl)⟩, ⟨_, _, (fun_mk (st := s_Counts_grow) l_Counts_grow c_Counts_grow k_Counts_grow), ⟨a_Counts_grow, i_Counts_grow, k_Counts_grow⟩, ((fun_mk (st := s_Counts_grow) l_Counts_grow c_Counts_grow k_Counts_grow).binds (ps := ["self"]) fun _ _ _ _ _ _ us hl => match us, hl with | [_], _ => rfl)⟩⟩,
    ⟨_, PySem.W.mg_of X G m_MOST_LENGTH⟩,
    def_mk X G a0 l0 c0 k0 (fun _ _ _ _ _ _ us hl => match us, hl with | [_], _ => rfl),
    def_mk X G a1 l1 c1 k1 (fun _ _ _ _ _ _ us hl => match us, hl with | [_, _, _], _ => rfl),
    def_mk X G a2 l2 c2 k2 (fun _ _ _ _ _ _ us hl => match us, hl with | [_], _ => rfl),
    def_mk X G a3 l3 c3 k3 (fun _ _ _ _ _ _ us hl => match us, hl with | [_], _ => rfl),
    def_mk X G a4 l4 c4 k4 (fun _ _ _ _ _ _ us hl => match us, hl with | [_], _ => rfl),
    def_mk X G a5 l5 c5 k5 (fun _ _ _ _ _ _ us hl => match us, hl with | [_], _ => rfl),
    def_mk X G a6 l6 c6 k6 (fun _ _ _ _ _ _ us hl => match us, hl with | [_, _, _], _ => rfl),
    def_mk X G a7 l7 c7 k7 (fun _ _ _ _ _ _ us hl => match us, hl with | [_, _], _ => rfl),
    def_mk X G a8 l8 c8 k8 (fun _ _ _ _ _ _ us hl => match us, hl with | [_], _ => rfl),
    def_mk X G a9 l9 c9 k9 (fun _ _ _ _ _ _ us hl => match us, hl with | [_], _ => rfl),
    def_mk X G a10 l10 c10 k10 (fun _ _ _ _ _ _ us hl => match us, hl with | [_], _ => rfl),
    def_mk X G a11 l11 c11 k11 (fun _ _ _ _ _ _ us hl => match us, hl with | [_], _ => rfl),
    def_mk X G a12 l12 c12 k12 (fun _ _ _ _ _ _ us hl => match us, hl with | [_], _ => rfl),
    def_mk X G a13 l13 c13 k13 (fun _ _ _ _ _ _ us hl => match us, hl with | [_], _ => rfl),
    def_mk X G a14 l14 c14 k14 (fun _ _ _ _ _ _ us hl => match us, hl with | [_, _], _ => rfl),
    def_mk X G a15 l15 c15 k15 (fun _ _ _ _ _ _ us hl => match us, hl with | [_, _], _ => rfl),
    def_mk X G a16 l16 c16 k16 (fun _ _ _ _ _ _ us hl => match us, hl with | [_, _], _ => rfl),
    def_mk X G a17 l17 c17 k17 (fun _ _ _ _ _ _ us hl => match us, hl with | [_], _ => rfl),
    def_mk X G a18 l18 c18 k18 (fun _ _ _ _ _ _ us hl => match us, hl with | [_, _], _ => rfl),
    def_mk X G a19 l19 c19 k19 (fun _ _ _ _ _ _ us hl => match us, hl with | [_], _ => rfl),
    def_mk X G a20 l20 c20 k20 (fun _ _ _ _ _ _ us hl => match us, hl with | [_], _ => rfl),
    def_mk X G a21 l21 c21 k21 (fun _ _ _ _ _ _ us hl => match us, hl with | [_], _ => rfl),
    def_mk X G a22 l22 c22 k22 (fun _ _ _ _ _ _ us hl => match us, hl with | [_, _], _ => rfl),
    def_mk X G a23 l23 c23 k23 (fun _ _ _ _ _ _ us hl => match us, hl with | [_, _], _ => rfl),
    def_mk X G a24 l24 c24 k24 (fun _ _ _ _ _ _ us hl => match us, hl with | [_, _], _ => rfl),
    def_mk X G a25 l25 c25 k25 (fun _ _ _ _ _ _ us hl => match us, hl with | [_], _ => rfl),
    def_mk X G a26 l26 c26 k26 (fun _ _ _ _ _ _ us hl => match us, hl with | [_, _, _, _], _ => rfl),
    def_mk X G a27 l27 c27 k27 (fun _ _ _ _ _ _ us hl => match us, hl with | [_], _ => rfl),
    def_mk X G a28 l28 c28 k28 (fun _ _ _ _ _ _ us hl => match us, hl with | [_], _ => rfl),
    def_mk X G a29 l29 c29 k29 (fun _ _ _ _ _ _ us hl => match us, hl with | [_], _ => rfl),
    def_mk X G a30 l30 c30 k30 (fun _ _ _ _ _ _ us hl => match us, hl with | [_], _ => rfl),
    def_mk X G a31 l31 c31 k31 (fun _ _ _ _ _ _ us hl => match us, hl with | [_, _], _ => rfl),
    def_mk X G a32 l32 c32 k32 (fun _ _ _ _ _ _ us hl => match us, hl with | [_], _ => rfl),
    def_mk X G a33 l33 c33 k33 (fun _ _ _ _ _ _ us hl => match us, hl with | [_, _], _ => rfl),
    def_mk X G a34 l34 c34 k34 (fun _ _ _ _ _ _ us hl => match us, hl with | [_, _], _ => rfl),
    def_mk X G a35 l35 c35 k35 (fun _ _ _ _ _ _ us hl => match us, hl with | [_], _ => rfl),
    def_mk X G a36 l36 c36 k36 (fun _ _ _ _ _ _ us hl => match us, hl with | [_, _, _], _ => rfl),
    def_mk X G a37 l37 c37 k37 (fun _ _ _ _ _ _ us hl => match us, hl with | [_], _ => rfl),
    def_mk X G a38 l38 c38 k38 (fun _ _ _ _ _ _ us hl => match us, hl with | [_], _ => rfl),
    def_mk X G a39 l39 c39 k39 (fun _ _ _ _ _ _ us hl => match us, hl with | [_, _], _ => rfl),
    def_mk X G a40 l40 c40 k40 (fun _ _ _ _ _ _ us hl => match us, hl with | [_, _], _ => rfl),
    def_mk X G a41 l41 c41 k41 (fun _ _ _ _ _ _ us hl => match us, hl with | [_, _], _ => rfl),
    def_mk X G a42 l42 c42 k42 (fun _ _ _ _ _ _ us hl => match us, hl with | [_], _ => rfl),
    def_mk X G a43 l43 c43 k43 (fun _ _ _ _ _ _ us hl => match us, hl with | [_], _ => rfl),
    def_mk X G a44 l44 c44 k44 (fun _ _ _ _ _ _ us hl => match us, hl with | [_], _ => rfl),
    def_mk X G a45 l45 c45 k45 (fun _ _ _ _ _ _ us hl => match us, hl with | [_, _], _ => rfl),
    def_mk X G a46 l46 c46 k46 (fun _ _ _ _ _ _ us hl => match us, hl with | [_, _], _ => rfl),
    def_mk X G a47 l47 c47 k47 (fun _ _ _ _ _ _ us hl => match us, hl with | [_], _ => rfl),
    def_mk X G a48 l48 c48 k48 (fun _ _ _ _ _ _ us hl => match us, hl with | [_, _], _ => rfl),
    def_mk X G a49 l49 c49 k49 (fun _ _ _ _ _ _ us hl => match us, hl with | [_, _], _ => rfl),
    def_mk X G a50 l50 c50 k50 (fun _ _ _ _ _ _ us hl => match us, hl with | [_, _, _], _ => rfl),
    ⟨_, F, F.binds fun _ _ _ _ _ _ us hl => match us, hl with | [_], _ => rfl⟩⟩
theorem walk {l : PySem.W.OpenLaw} {q : Program} {loose : List Str} {XP : (Str → Option Value) → Heap → Prop} {YP : World → Heap → Prop} {d : DefRec} {K : Params → PySem.W.Frag} (hn : l.most = some 63) (hdf : d.params.defaults = [])
    (hY : ∀ (w : World) (h : Heap), YP w h → (K w.params).In h)
    (F : ∀ (w : World) (mg : Str → Option Value) (fa : Addr) (h : Heap), (K w.params).In h → h.Ns mainGlobals mg → mg d.name = some (.ref fa) → Facts (K w.params) mg fa) :
    PySem.W.WalkO q loose XP YP l.row.toRowW d [] (fun f vs => PySem.call f vs) :=
  L2.walk_of (n := 63) (k := 12) (x := "_law_script") (CX := fun _ => CX0) (sp := fun w => spLaw (K w.params)) hn (by decide) hdf ⟨rfl, by decide, by decide⟩ hY (fun w mg fa h a b c => (F w mg fa h a b c).fn) (fun _ _ a ns hl _ hS => ⟨a, ns, rfl, hS, hl, fun _ => rfl⟩) fun _ _ _ _ _ z => z
end KL
end
open PySem PySem.W PyProof.Rows
set_option maxRecDepth 100000 in
set_option maxHeartbeats 0 in
theorem PySem.Challenge.cw_keptlengths_k11_whole_sums_closed_in_by_holds : PySem.Challenge.rw_keptlengths_k11_whole_sums_closed_in_by.Holds := by
  w_on; o_law; k_head; (case hw => w_witness2)
  k_fill

  refine KL.walk (l := PySem.Challenge.rw_keptlengths_k11_whole_sums_closed_in_by) rfl rfl (fun w h Y => PySem.W.kIn_of Y) ?F
  case F =>
    intro w mg fa h KX G hmg
    refine' KL.facts_mk KX G hmg ?a0 ?l0 ?c0 ?k0 ?a1 ?l1 ?c1 ?k1 ?a2 ?l2 ?c2 ?k2 ?a3 ?l3 ?c3 ?k3 ?a4 ?l4 ?c4 ?k4 ?a5 ?l5 ?c5 ?k5 ?a6 ?l6 ?c6 ?k6 ?a7 ?l7 ?c7 ?k7 ?a8 ?l8 ?c8 ?k8 ?a9 ?l9 ?c9 ?k9 ?a10 ?l10 ?c10 ?k10 ?a11 ?l11 ?c11 ?k11 ?a12 ?l12 ?c12 ?k12 ?a13 ?l13 ?c13 ?k13 ?a14 ?l14 ?c14 ?k14 ?a15 ?l15 ?c15 ?k15 ?a16 ?l16 ?c16 ?k16 ?a17 ?l17 ?c17 ?k17 ?a18 ?l18 ?c18 ?k18 ?a19 ?l19 ?c19 ?k19 ?a20 ?l20 ?c20 ?k20 ?a21 ?l21 ?c21 ?k21 ?a22 ?l22 ?c22 ?k22 ?a23 ?l23 ?c23 ?k23 ?a24 ?l24 ?c24 ?k24 ?a25 ?l25 ?c25 ?k25 ?a26 ?l26 ?c26 ?k26 ?a27 ?l27 ?c27 ?k27 ?a28 ?l28 ?c28 ?k28 ?a29 ?l29 ?c29 ?k29 ?a30 ?l30 ?c30 ?k30 ?a31 ?l31 ?c31 ?k31 ?a32 ?l32 ?c32 ?k32 ?a33 ?l33 ?c33 ?k33 ?a34 ?l34 ?c34 ?k34 ?a35 ?l35 ?c35 ?k35 ?a36 ?l36 ?c36 ?k36 ?a37 ?l37 ?c37 ?k37 ?a38 ?l38 ?c38 ?k38 ?a39 ?l39 ?c39 ?k39 ?a40 ?l40 ?c40 ?k40 ?a41 ?l41 ?c41 ?k41 ?a42 ?l42 ?c42 ?k42 ?a43 ?l43 ?c43 ?k43 ?a44 ?l44 ?c44 ?k44 ?a45 ?l45 ?c45 ?k45 ?a46 ?l46 ?c46 ?k46 ?a47 ?l47 ?c47 ?k47 ?a48 ?l48 ?c48 ?k48 ?a49 ?l49 ?c49 ?k49 ?a50 ?l50 ?c50 ?k50 ?a51 ?l51 ?c51 ?k51 ?q_Counts ?a_Counts___init__ ?i_Counts___init__ ?l_Counts___init__ ?c_Counts___init__ ?k_Counts___init__ ?a_Counts_of_length ?i_Counts_of_length ?l_Counts_of_length ?c_Counts_of_length ?k_Counts_of_length ?a_Counts_behind ?i_Counts_behind ?l_Counts_behind ?c_Counts_behind ?k_Counts_behind ?a_Counts_grow ?i_Counts_grow ?l_Counts_grow ?c_Counts_grow ?k_Counts_grow ?pg_Counts ?hd_Counts ?po_Counts ?sa_Counts ?mk_Counts ?kc_Counts ?n_Counts_rows ?n_Counts_ways ?n_Counts_order ?n_Counts_table ?m_MOST_LENGTH ?m1 ?m2 ?m3 ?p_NoMachine ?x_NoMachine ?k_NoMachine ?b_NoMachine ?t_NoMachine ?i_NoMachine ?s_NoMachine ?p_NoNumber ?x_NoNumber ?k_NoNumber ?b_NoNumber ?t_NoNumber ?i_NoNumber ?s_NoNumber ?p_Idle ?x_Idle ?k_Idle ?b_Idle ?t_Idle ?i_Idle ?s_Idle ?v_gcd ?v_zip ?v_abs ?v_dict ?z0 ?z1 ?z2 ?z3 ?z4 ?z5 ?z6 ?z7 ?z8 ?z9 ?z10 ?z11 ?z12 ?z13 ?z14
    (case a0 => k_is)
    (case l0 => k_is)
    (case c0 => k_is)
    (case k0 => k_is)
    (case a1 => k_is)
    (case l1 => k_is)
    (case c1 => k_is)
    (case k1 => k_is)
    (case a2 => k_is)
    (case l2 => k_is)
    (case c2 => k_is)
    (case k2 => k_is)
    (case a3 => k_is)
    (case l3 => k_is)
    (case c3 => k_is)
    (case k3 => k_is)
    (case a4 => k_is)
    (case l4 => k_is)
    (case c4 => k_is)
    (case k4 => k_is)
    (case a5 => k_is)
    (case l5 => k_is)
    (case c5 => k_is)
    (case k5 => k_is)
    (case a6 => k_is)
    (case l6 => k_is)
    (case c6 => k_is)
    (case k6 => k_is)
    (case a7 => k_is)
    (case l7 => k_is)
    (case c7 => k_is)
    (case k7 => k_is)
    (case a8 => k_is)
    (case l8 => k_is)
    (case c8 => k_is)
    (case k8 => k_is)
    (case a9 => k_is)
    (case l9 => k_is)
    (case c9 => k_is)
    (case k9 => k_is)
    (case a10 => k_is)
    (case l10 => k_is)
    (case c10 => k_is)
    (case k10 => k_is)
    (case a11 => k_is)
    (case l11 => k_is)
    (case c11 => k_is)
    (case k11 => k_is)
    (case a12 => k_is)
    (case l12 => k_is)
    (case c12 => k_is)
    (case k12 => k_is)
    (case a13 => k_is)
    (case l13 => k_is)
    (case c13 => k_is)
    (case k13 => k_is)
    (case a14 => k_is)
    (case l14 => k_is)
    (case c14 => k_is)
    (case k14 => k_is)
    (case a15 => k_is)
    (case l15 => k_is)
    (case c15 => k_is)
    (case k15 => k_is)
    (case a16 => k_is)
    (case l16 => k_is)
    (case c16 => k_is)
    (case k16 => k_is)
    (case a17 => k_is)
    (case l17 => k_is)
    (case c17 => k_is)
    (case k17 => k_is)
    (case a18 => k_is)
    (case l18 => k_is)
    (case c18 => k_is)
    (case k18 => k_is)
    (case a19 => k_is)
    (case l19 => k_is)
    (case c19 => k_is)
    (case k19 => k_is)
    (case a20 => k_is)
    (case l20 => k_is)
    (case c20 => k_is)
    (case k20 => k_is)
    (case a21 => k_is)
    (case l21 => k_is)
    (case c21 => k_is)
    (case k21 => k_is)
    (case a22 => k_is)
    (case l22 => k_is)
    (case c22 => k_is)
    (case k22 => k_is)
    (case a23 => k_is)
    (case l23 => k_is)
    (case c23 => k_is)
    (case k23 => k_is)
    (case a24 => k_is)
    (case l24 => k_is)
    (case c24 => k_is)
    (case k24 => k_is)
    (case a25 => k_is)
    (case l25 => k_is)
    (case c25 => k_is)
    (case k25 => k_is)
    (case a26 => k_is)
    (case l26 => k_is)
    (case c26 => k_is)
    (case k26 => k_is)
    (case a27 => k_is)
    (case l27 => k_is)
    (case c27 => k_is)
    (case k27 => k_is)
    (case a28 => k_is)
    (case l28 => k_is)
    (case c28 => k_is)
    (case k28 => k_is)
    (case a29 => k_is)
    (case l29 => k_is)
    (case c29 => k_is)
    (case k29 => k_is)
    (case a30 => k_is)
    (case l30 => k_is)
    (case c30 => k_is)
    (case k30 => k_is)
    (case a31 => k_is)
    (case l31 => k_is)
    (case c31 => k_is)
    (case k31 => k_is)
    (case a32 => k_is)
    (case l32 => k_is)
    (case c32 => k_is)
    (case k32 => k_is)
    (case a33 => k_is)
    (case l33 => k_is)
    (case c33 => k_is)
    (case k33 => k_is)
    (case a34 => k_is)
    (case l34 => k_is)
    (case c34 => k_is)
    (case k34 => k_is)
    (case a35 => k_is)
    (case l35 => k_is)
    (case c35 => k_is)
    (case k35 => k_is)
    (case a36 => k_is)
    (case l36 => k_is)
    (case c36 => k_is)
    (case k36 => k_is)
    (case a37 => k_is)
    (case l37 => k_is)
    (case c37 => k_is)
    (case k37 => k_is)
    (case a38 => k_is)
    (case l38 => k_is)
    (case c38 => k_is)
    (case k38 => k_is)
    (case a39 => k_is)
    (case l39 => k_is)
    (case c39 => k_is)
    (case k39 => k_is)
    (case a40 => k_is)
    (case l40 => k_is)
    (case c40 => k_is)
    (case k40 => k_is)
    (case a41 => k_is)
    (case l41 => k_is)
    (case c41 => k_is)
    (case k41 => k_is)
    (case a42 => k_is)
    (case l42 => k_is)
    (case c42 => k_is)
    (case k42 => k_is)
    (case a43 => k_is)
    (case l43 => k_is)
    (case c43 => k_is)
    (case k43 => k_is)
    (case a44 => k_is)
    (case l44 => k_is)
    (case c44 => k_is)
    (case k44 => k_is)
    (case a45 => k_is)
    (case l45 => k_is)
    (case c45 => k_is)
    (case k45 => k_is)
    (case a46 => k_is)
    (case l46 => k_is)
    (case c46 => k_is)
    (case k46 => k_is)
    (case a47 => k_is)
    (case l47 => k_is)
    (case c47 => k_is)
    (case k47 => k_is)
    (case a48 => k_is)
    (case l48 => k_is)
    (case c48 => k_is)
    (case k48 => k_is)
    (case a49 => k_is)
    (case l49 => k_is)
    (case c49 => k_is)
    (case k49 => k_is)
    (case a50 => k_is)
    (case l50 => k_is)
    (case c50 => k_is)
    (case k50 => k_is)
    (case a51 => k_is)
    (case l51 => k_is)
    (case c51 => k_is)
    (case k51 => k_is)
    (case q_Counts => k_is)
    (case a_Counts___init__ => k_is)
    (case i_Counts___init__ => k_is)
    (case l_Counts___init__ => k_is)
    (case c_Counts___init__ => k_is)
    (case k_Counts___init__ => k_is)
    (case a_Counts_of_length => k_is)
    (case i_Counts_of_length => k_is)
    (case l_Counts_of_length => k_is)
    (case c_Counts_of_length => k_is)
    (case k_Counts_of_length => k_is)
    (case a_Counts_behind => k_is)
    (case i_Counts_behind => k_is)
    (case l_Counts_behind => k_is)
    (case c_Counts_behind => k_is)
    (case k_Counts_behind => k_is)
    (case a_Counts_grow => k_is)
    (case i_Counts_grow => k_is)
    (case l_Counts_grow => k_is)
    (case c_Counts_grow => k_is)
    (case k_Counts_grow => k_is)
    (case pg_Counts => k_is)
    (case hd_Counts => k_is)
    (case po_Counts => k_is)
    (case sa_Counts => k_is)
    (case mk_Counts => k_is)
    (case kc_Counts => k_is)
    (case n_Counts_rows => k_is)
    (case n_Counts_ways => k_is)
    (case n_Counts_order => k_is)
    (case n_Counts_table => k_is)
    (case m_MOST_LENGTH => k_is)
    (case m1 => k_is)
    (case m2 => k_is)
    (case m3 => k_is)
    (case p_NoMachine => k_is)
    (case x_NoMachine => k_exc)
    (case k_NoMachine => k_is)
    (case b_NoMachine => k_is)
    (case t_NoMachine => k_is)
    (case i_NoMachine => k_is)
    (case s_NoMachine => first | rfl | k_is)
    (case p_NoNumber => k_is)
    (case x_NoNumber => k_exc)
    (case k_NoNumber => k_is)
    (case b_NoNumber => k_is)
    (case t_NoNumber => k_is)
    (case i_NoNumber => k_is)
    (case s_NoNumber => first | rfl | k_is)
    (case p_Idle => k_is)
    (case x_Idle => k_exc)
    (case k_Idle => k_is)
    (case b_Idle => k_is)
    (case t_Idle => k_is)
    (case i_Idle => k_is)
    (case s_Idle => first | rfl | k_is)
    (case v_gcd => k_is)
    (case v_zip => k_is)
    (case v_abs => k_is)
    (case v_dict => k_is)
    (case z0 => k_is)
    (case z1 => k_is)
    (case z2 => k_is)
    (case z3 => k_is)
    (case z4 => k_is)
    (case z5 => k_is)
    (case z6 => k_is)
    (case z7 => k_is)
    (case z8 => k_is)
    (case z9 => k_is)
    (case z10 => k_is)
    (case z11 => k_is)
    (case z12 => k_is)
    (case z13 => k_is)
    (case z14 => k_is)
