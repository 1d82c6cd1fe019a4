import PyProof.Rows.All
import Wide.All
import OpenK.AllK
import Wide.FinOn
import HandS.Iter
import HandS.Zip
import KE.GoesMore
import HandS.ForMost
import HandS.Exc
import HandS.TryMany
import HandS.ExcOwn
import HandS.WordsExc
import HandS.IsInst
import HandS.TupAny
import HandS.TupMul
import HandS.Small
import HandS.Walk
import HandS.Strs
import HandS.Flow
import HandS.FStr
import KE.KUnpackStar
import HandS.DictComp
import HandS.SortInts
import HandS.TupLe
import PySem.Challenge.RW_keptlengths_k07_whole_texts_read_as_mach
set_option Elab.async false
set_option linter.all false
set_option maxRecDepth 100000
section
namespace KL
open PySem PySem.Spec PyProof.Rows L2
/-! ### enumerate over a tuple -/
set_option maxHeartbeats 1000000 in
theorem meets_enum1 {v : Value} {o : Obj} {H : Heap → Prop} (B : Begins v o H) :
    Meets (Builtin.«enumerate.__new__» ⟨[.type "enumerate", v], []⟩) (fun _ R s => H s.heap ∧
      R (.ok (.ret (.ref (s.heap.push o).objs.size))) { s with heap := (s.heap.push o).push { cls := .type "enumerate", data := .fields #[.none, .bool false, .ref s.heap.objs.size, rawInt 0, .none, .none] } }) :=
  .of_wp fun prog w A R s h => by
    obtain ⟨hp, g, d, tk, os⟩ := s; obtain ⟨h1, h⟩ := h
    have hsub := sub_enumerate
    have q1 : ∀ {A' : Around} {E : Value → Shared → Prop} {Q : Value → Shared → Prop}, Q (.ref hp.objs.size) ⟨hp.push o, g, d, tk, os⟩ → wpAny (model prog w) A' (pyIter v) Q E ⟨hp, g, d, tk, os⟩ :=
      fun q => B.iter prog w _ _ ⟨hp, g, d, tk, os⟩ _ h1 q
    wp_walk using q1
    refine wpAny_stack_any fun st => wpAny_pure ?_
    split
    · rename_i c _ _ _ _ _
      cases (c == Value.type "enumerate")
      · wp_walk using q1
        exact ⟨_, rfl, h⟩
      · wp_walk using q1
        exact ⟨_, rfl, h⟩
    · wp_walk using q1
      exact ⟨_, rfl, h⟩
section
variable {prog : Program} {w : World} {A : Around} {E : Value → Shared → Prop} {s : Shared}
theorem enum1 {v : Value} {o : Obj} {H : Heap → Prop} {Q : Value → Shared → Prop} (B : Begins v o H) (h1 : H s.heap)
    (h : ∀ h', IsEnum h' (s.heap.objs.size + 1) s.heap.objs.size 0 .none → h'.get? s.heap.objs.size = some o → h'.objs.size = s.heap.objs.size + 2 →
      (∀ b o, s.heap.get? b = some o → h'.get? b = some o) → Q (.ref (s.heap.objs.size + 1)) { s with heap := h' }) :
    wpAny (model prog w) A (call (.type "enumerate") [v]) Q E s := by
  refine callType_new F.called_enumerate (by decide) (F.typeCall_enumerate_1 _) (F.newCall_enumerate_1 _) (fun obj => F.args_object_init_2 obj _) F.entry_enumerate_new
    (meets_enum1 B) ⟨h1, ?_⟩
  have hz : (s.heap.push o).objs.size = s.heap.objs.size + 1 := Heap.size_push ..
  show _ ∧ _
  rw [hz]
  have he : IsEnum ((s.heap.push o).push { cls := .type "enumerate", data := .fields #[.none, .bool false, .ref s.heap.objs.size, rawInt 0, .none, .none] }) (s.heap.objs.size + 1) s.heap.objs.size 0 .none := by
    have := Heap.get?_push_size (s.heap.push o) (o := { cls := .type "enumerate", data := .fields #[.none, .bool false, .ref s.heap.objs.size, rawInt 0, .none, .none] }) rfl
    rw [hz] at this; exact this
  refine ⟨⟨_, he, rfl⟩, h _ he (Heap.get?_push_of_some _ (Heap.get?_push_size _ B.free)) (by rw [Heap.size_push, hz]) fun b o x => Heap.get?_push_of_some _ (Heap.get?_push_of_some _ x)⟩
end
/-- the tuple at a as it stands at each turn, each item in a new pair -/
def IteT (K : PySem.W.Frag) (a : Addr) : It :=
  ⟨fun i H => ∃ (xs : List V) (x : V), SqT K H a xs ∧ xs[i]? = some x, fun i H v H' => ∃ T x, v = .ref T ∧ H T = none ∧ H' = upd H T (.tup [.int (i : Nat), x]) ∧ ∀ xs, SqT K H a xs → xs[i]? = some x, fun i H => ∃ xs : List V, SqT K H a xs ∧ xs.length ≤ i⟩
theorem apart {h : Heap} {a it : Addr} {items : Array Value} {i : Nat} (p : h.IsTuple a items) (q : h.IsTupleIter it a i) : a ≠ it := fun e => by
  subst e
  obtain ⟨o, e1, c1, _⟩ := p
  obtain ⟨o2, e2, c2, _⟩ := q
  rw [e1] at e2
  cases e2
  rw [c1] at c2
  exact absurd c2 (by decide)
theorem apart2 {h : Heap} {a e it : Addr} {items : Array Value} {i : Int} {old : Value} (p : h.IsTuple a items) (q : IsEnum h e it i old) : e ≠ a := fun z => by
  subst z
  obtain ⟨o, e1, c1, _⟩ := p
  have q' : h.get? e = some _ := q
  rw [e1] at q'
  cases q'
  exact absurd (show Value.type "enumerate" = Value.type "tuple" from c1) (by decide)
theorem turn_enumT {P : Program} {w : World} {K : PySem.W.Frag} {elts : List Expr} {kk : Nat} {tpos : Pos} (a e it : Addr) :
    Turn P w K (.Tuple elts kk tpos) (IteT K a) [e, it] e (fun i h => (∃ old, IsEnum h e it ((i : Nat) : Int) old) ∧ h.IsTupleIter it a i ∧ e ≠ it) where
  mem := by simp
  obj := fun i h st b hb => by
    obtain ⟨⟨old, he⟩, ⟨o, ho, hc, hd⟩, _⟩ := st
    have e' : b = e ∨ b = it := by simpa using hb
    rcases e' with z | z
    · rw [z]; exact ⟨_, he, fun v q => nomatch q⟩
    · rw [z]; exact ⟨o, ho, fun v q => by rw [hd] at q; cases q⟩
  keep := fun i h h' st k => let ⟨⟨old, he⟩, hi, hne⟩ := st; ⟨⟨old, k e (by simp) _ he⟩, hi.at fun o q => k it (by simp) o q, hne⟩
  item := by
    intro X hP hw hK hc i pins s σ H E I hf st hg
    subst hP hw hK
    obtain ⟨⟨old, he⟩, hit, hne⟩ := st
    obtain ⟨xs, x, hq, hx⟩ := hg
    obtain ⟨its, rv, p, hz⟩ := I.tuple hq
    obtain ⟨u, hu, ru⟩ := rv.get hx
    have p' : s.heap.IsTuple a its.toArray := p
    have hel : e < s.heap.objs.size := Heap.lt_size he
    have hil : it < s.heap.objs.size := by obtain ⟨_, q, _⟩ := hit; exact Heap.lt_size q
    have nai := apart p' hit
    have nae := apart2 p' he
    have D := Draws.tuple (prog := X.prog) (w := X.w) (A := X.A.in1) (I.ok.hd hc) it a nai its.toArray
    have hlt : i < its.toArray.size := by
      have := (List.getElem?_eq_some_iff.mp hu).1
      simpa using this
    refine wpAny_pyNext_enum_itemD D he ⟨hit, p'⟩ hlt hne (by simp only [List.mem_cons, List.not_mem_nil, or_false, not_or]; exact ⟨hne, nae⟩) fun x' h' tk hx' ho hst' hT hsz hk => ?_
    have ex : x' = u := by
      have hu' : its.toArray[i]? = some u := by simpa using hu
      rw [hu'] at hx'
      exact (Option.some.inj hx').symm
    subst ex
    refine ⟨_, rfl, wpAny_letOwnedTupleGo_enum (s := { s with heap := h', toks := tk + 1 }) ho fun h'' he' sb => ?_⟩
    have hT2 : h''.get? s.heap.objs.size = some { cls := .type "tuple", data := .seq #[.int i tk, x'] } := (sb.2 _ (Nat.ne_of_gt hel)).trans hT
    have new : ObjOk X.prog X.w (upd H s.heap.objs.size (.tup [.int (i : Nat), x])) h'' s.heap.objs.size (.tup [.int (i : Nat), x]) :=
      ⟨by show 2 ≤ sizeLine; decide, [.int i tk, x'], .cons ⟨_, rfl⟩ (.cons ru .nil), ⟨_, hT2, rfl, _, rfl⟩⟩
    have I1 : Inv X pins σ (upd H s.heap.objs.size (.tup [.int (i : Nat), x])) { s with heap := h'', toks := tk + 1 } :=
      I.turnedNew (ch := [e, it]) (fun b ob hb q => (sb.2 b (fun z => hb (by simp [z]))).trans (hk b ob (fun z => hb (by simp [z])) (fun z => hb (by simp [z])) q)) hf (Nat.le_refl _) new
    refine ⟨.ref s.heap.objs.size, _, I1, rfl, ⟨_, x, rfl, I.hok.fresh (Nat.le_refl _), rfl, fun ys hy => by rw [I.tuple_inj hy hq]; exact hx⟩, ⟨⟨x', ?_⟩, hst'.1.at fun o q => (sb.2 it (Ne.symm hne)).trans q, hne⟩, fun b hb => ?_⟩
    · have e1 : ((i + 1 : Nat) : Int) = (i : Int) + 1 := by omega
      rw [e1]; exact he'
    · have hb' : b < s.heap.objs.size := by
        have e' : b = e ∨ b = it := by simpa using hb
        rcases e' with z | z
        · rw [z]; exact hel
        · rw [z]; exact hil
      rw [upd_ne (Nat.ne_of_lt hb')]
      exact (hf b hb).1
  done := by
    intro X hP hw hK hc i pins s σ H E I hf st hg
    subst hP hw hK
    obtain ⟨⟨old, he⟩, hit, hne⟩ := st
    obtain ⟨xs, hq, hx⟩ := hg
    obtain ⟨its, rv, p, hz⟩ := I.tuple hq
    obtain ⟨f0, f1, f2, f3, f4, f5⟩ := hf it (by simp)
    have hl := rv.length
    have hT : s.TypeIs (.ref e) "enumerate" := ⟨_, he, rfl⟩
    unfold pyNext
    refine wpAny_bind (wpAny_attempt (wpAny_callSpecial?_slot (name := Str.ofString "__next__") hT F.slot_enumerate_next
      (wpAny_call_entry F.slot_enumerate_next hT F.entry_enumerate_next ?_ (F.args_enumerate_next_1 _))))
    show wpAny _ _ (field (.ref e) 2 >>= _) _ _ _
    refine wpAny_bind (wpAny_field he rfl (x := .ref it) rfl ?_)
    refine wpAny_bind (wpAny_nextOf_tuple_end (I.ok.hd hc) hit (show s.heap.IsTuple a its.toArray from p) (by simp; omega) fun h' x eb hx' => ?_)
    obtain ⟨o, ho, hcl⟩ := hx'
    refine wpAny_bind (wpAny_isInstance (T := "StopIteration") (b := true) ⟨o, ho, hcl⟩ isSubtype_stop ?_)
    exact wpAny_pure ⟨rfl, I.turned (t' := s.toks) (fun b o hb q => eb b o hb q) f0 f1 f3 f4 f5⟩
  self := fun A i s Q E st h => let ⟨⟨_, he⟩, _⟩ := st; wpAny_pyIter_enum he h
def iEnumT (K : PySem.W.Frag) (ta : TA) : TI := fun σ H R => ta σ H fun vs H1 => ∃ a xs, vs = [.ref a] ∧ SqT K H1 a xs ∧ R (IteT K a) H1
theorem pi_enumT {X : Cx} {e : Expr} {ta : TA} {p pos tpos : Pos} {elts : List Expr} {kk : Nat} (hg : Gl X "enumerate") (hm : X.mg "enumerate" = none) (ha : PA X [e] ta) (hs : starEach [e] X.env = [(false, eval e X.env)] := by rfl) :
    PI X (.Tuple elts kk tpos) (.Call (.Name "enumerate" p) [e] [] pos) (iEnumT X.K ta) := by
  refine ⟨fun pins s σ H R I h => ?_⟩
  refine Call_ (ld_blt I hg hm boot_enumerate (PyProof.Rows.callWith_type1 (thn (ha.run pos pins s σ H _ I h) fun us s1 ⟨vs, H1, I1, r1, q1⟩ => ?_) hs rfl))
  obtain ⟨a, xs, ex, hq, q⟩ := q1
  subst ex
  cases r1 with
  | cons r rr =>
    cases rr
    cases r
    obtain ⟨its, rv, p', hz⟩ := I1.tuple hq
    refine enum1 (begins_tuple a its.toArray) (show s1.heap.IsTuple a its.toArray from p') fun h' he hit hsz hk => wpAny_pyIter_enum he ?_
    have I2 : Inv X pins σ H1 { s1 with heap := h' } := I1.kept (t' := s1.toks) hk
    refine ⟨s1.heap.objs.size + 1, [s1.heap.objs.size + 1, s1.heap.objs.size], _, _, H1, rfl, I2, turn_enumT a (s1.heap.objs.size + 1) s1.heap.objs.size, ⟨⟨.none, he⟩, ⟨_, hit, rfl, rfl⟩, Nat.succ_ne_self _⟩, fun b hb => ?_, q⟩
    have e' : b = s1.heap.objs.size + 1 ∨ b = s1.heap.objs.size := by simpa using hb
    have hle : s1.heap.objs.size ≤ b := by
      rcases e' with z | z
      · rw [z]; exact Nat.le_add_right _ _
      · rw [z]; exact Nat.le_refl _
    exact I1.fpOk hle (I1.hok.fresh hle)
end KL
end
section
namespace KL
/-! ### graphs -/
/-- what is reached from the starts by the ways -/
inductive RS (ways : List (List Nat)) (starts : List Nat) : Nat → Prop
  | base {s : Nat} : s ∈ starts → RS ways starts s
  | step {i t : Nat} : RS ways starts i → t ∈ (ways[i]?).getD [] → RS ways starts t
def cnt : List Bool → Nat
  | [] => 0
  | b :: r => (if b = true then 0 else 1) + cnt r
theorem cnt_le : ∀ fl : List Bool, cnt fl ≤ fl.length
  | [] => Nat.le_refl _
  | b :: r => by
    have := cnt_le r
    rw [cnt, List.length_cons]
    split <;> omega
theorem cnt_set : ∀ {fl : List Bool} {t : Nat}, fl[t]? = some false → cnt (fl.set t true) + 1 = cnt fl
  | [], t, h => by simp at h
  | b :: r, 0, h => by
    simp at h
    subst h
    simp [cnt]
    omega
  | b :: r, t + 1, h => by
    have h' : r[t]? = some false := by simpa using h
    have := cnt_set h'
    rw [List.set_cons_succ, cnt, cnt]
    omega
theorem set_get {fl : List Bool} {t i : Nat} (h : fl[i]? = some true) : (fl.set t true)[i]? = some true := by
  have hi := (List.getElem?_eq_some_iff.mp h).1
  rw [List.getElem?_set]
  split
  · next e =>
    subst e
    rw [if_pos hi]
  · exact h
theorem set_new {fl : List Bool} {t : Nat} (h : t < fl.length) : (fl.set t true)[t]? = some true := by
  rw [List.getElem?_set_self h]
theorem set_back {fl : List Bool} {t i : Nat} (h : (fl.set t true)[i]? = some true) : i = t ∨ fl[i]? = some true := by
  by_cases e : t = i
  · exact .inl e.symm
  · rw [List.getElem?_set_ne e] at h
    exact .inr h
structure SI (ways : List (List Nat)) (starts : List Nat) (fl : List Bool) (wt : List Nat) : Prop where
  len : fl.length = ways.length
  st : ∀ s ∈ starts, fl[s]? = some true
  wtf : ∀ s ∈ wt, fl[s]? = some true
  sound : ∀ i : Nat, fl[i]? = some true → RS ways starts i
  clo : ∀ i : Nat, fl[i]? = some true → i ∈ wt ∨ ∀ t ∈ (ways[i]?).getD [], fl[t]? = some true
structure SJ (ways : List (List Nat)) (starts : List Nat) (a j : Nat) (fl : List Bool) (wt : List Nat) : Prop where
  len : fl.length = ways.length
  st : ∀ s ∈ starts, fl[s]? = some true
  wtf : ∀ s ∈ wt, fl[s]? = some true
  sound : ∀ i : Nat, fl[i]? = some true → RS ways starts i
  rat : fl[a]? = some true
  clo : ∀ i : Nat, fl[i]? = some true → i ∈ wt ∨ i = a ∨ ∀ t ∈ (ways[i]?).getD [], fl[t]? = some true
  dn : ∀ t ∈ ((ways[a]?).getD []).take j, fl[t]? = some true
section
variable {ways : List (List Nat)} {starts : List Nat} {fl : List Bool} {wt ys : List Nat} {a j t : Nat}
theorem SI.pop (h : SI ways starts fl (ys ++ [a])) : SJ ways starts a 0 fl ys where
  len := h.len
  st := h.st
  wtf := fun s m => h.wtf s (List.mem_append_left _ m)
  sound := h.sound
  rat := h.wtf a (by simp)
  clo := fun i e => by
    rcases h.clo i e with m | q
    · rcases List.mem_append.mp m with m | m
      · exact .inl m
      · exact .inr (.inl (by simpa using m))
    · exact .inr (.inr q)
  dn := fun t m => by simp at m
theorem take_succ' {l : List Nat} (h : l[j]? = some t) {P : Nat → Prop} (hp : ∀ x ∈ l.take j, P x) (ht : P t) : ∀ x ∈ l.take (j + 1), P x := fun x m => by
  rw [List.take_add_one, h] at m
  rcases List.mem_append.mp m with m | m
  · exact hp x m
  · have e : x = t := by simpa using m
    rw [e]; exact ht
theorem SJ.skip (h : SJ ways starts a j fl wt) (ht : ((ways[a]?).getD [])[j]? = some t) (hf : fl[t]? = some true) : SJ ways starts a (j + 1) fl wt where
  len := h.len
  st := h.st
  wtf := h.wtf
  sound := h.sound
  rat := h.rat
  clo := h.clo
  dn := take_succ' ht h.dn hf
theorem SJ.set (h : SJ ways starts a j fl wt) (ht : ((ways[a]?).getD [])[j]? = some t) (hf : fl[t]? = some false) : SJ ways starts a (j + 1) (fl.set t true) (wt ++ [t]) where
  len := by rw [List.length_set]; exact h.len
  st := fun s m => set_get (h.st s m)
  wtf := fun s m => by
    rcases List.mem_append.mp m with m | m
    · exact set_get (h.wtf s m)
    · have e : s = t := by simpa using m
      rw [e]; exact set_new (List.getElem?_eq_some_iff.mp hf).1
  sound := fun i e => by
    rcases set_back e with rfl | e
    · exact .step (h.sound a h.rat) (List.mem_of_getElem? ht)
    · exact h.sound i e
  rat := set_get h.rat
  clo := fun i e => by
    rcases set_back e with rfl | e
    · exact .inl (by simp)
    · rcases h.clo i e with m | q | q
      · exact .inl (List.mem_append_left _ m)
      · exact .inr (.inl q)
      · exact .inr (.inr fun t m => set_get (q t m))
  dn := take_succ' ht (fun x m => set_get (h.dn x m)) (set_new (List.getElem?_eq_some_iff.mp hf).1)
theorem SJ.done (h : SJ ways starts a ((ways[a]?).getD []).length fl wt) : SI ways starts fl wt where
  len := h.len
  st := h.st
  wtf := h.wtf
  sound := h.sound
  clo := fun i e => by
    rcases h.clo i e with m | rfl | q
    · exact .inl m
    · exact .inr fun t m => h.dn t (by rw [List.take_length]; exact m)
    · exact .inr q
theorem SI.fin (h : SI ways starts fl []) (i : Nat) : fl[i]? = some true ↔ RS ways starts i := by
  refine ⟨h.sound i, fun r => ?_⟩
  induction r with
  | base m => exact h.st _ m
  | step r m ih =>
    rcases h.clo _ ih with q | q
    · cases q
    · exact q _ m
/-- the starts flagged -/
structure SK (n : Nat) (done : List Nat) (fl : List Bool) : Prop where
  len : fl.length = n
  iff : ∀ i : Nat, fl[i]? = some true ↔ i ∈ done
theorem SK.zero (n : Nat) : SK n [] (List.replicate n false) where
  len := List.length_replicate
  iff := fun i => by
    rw [List.getElem?_replicate]
    split <;> simp
theorem SK.add {n : Nat} {dn : List Nat} (h : SK n dn fl) (ht : t < n) : SK n (dn ++ [t]) (fl.set t true) where
  len := by rw [List.length_set]; exact h.len
  iff := fun i => by
    constructor
    · intro e
      rcases set_back e with rfl | e
      · simp
      · exact List.mem_append_left _ ((h.iff i).mp e)
    · intro m
      rcases List.mem_append.mp m with m | m
      · exact set_get ((h.iff i).mpr m)
      · have e : i = t := by simpa using m
        rw [e]; exact set_new (by rw [h.len]; exact ht)
theorem SK.si (h : SK ways.length starts fl) : SI ways starts fl starts where
  len := h.len
  st := fun s m => (h.iff s).mpr m
  wtf := fun s m => (h.iff s).mpr m
  sound := fun i e => .base ((h.iff i).mp e)
  clo := fun i e => .inl ((h.iff i).mp e)
theorem RS.lt (wf : ∀ (i : Nat) (ws : List Nat), ways[i]? = some ws → ∀ t ∈ ws, t < ways.length) (hs : ∀ s ∈ starts, s < ways.length) {i : Nat} (r : RS ways starts i) : i < ways.length := by
  induction r with
  | base m => exact hs _ m
  | step r m ih =>
    have e := List.getElem?_eq_getElem ih
    rw [e] at m
    exact wf _ _ e _ m
end
end KL
end
section
namespace KL
open PySem PySem.Spec PyProof.Rows L2

/-! ### heaps: all that stands elsewhere than at Z stands still -/
abbrev Zone := Addr → Prop
def SB (Z : Zone) (H H' : Hp) : Prop := ∀ b o, ¬ Z b → H b = some o → H' b = some o
/-- what is tracked -/
def Trk (H : Hp) : Zone := fun a => H a ≠ none
theorem SB.rfl' {Z : Zone} {H : Hp} : SB Z H H := fun _ _ _ h => h
theorem SB.trans {Z : Zone} {H H1 H2 : Hp} (a : SB Z H H1) (b : SB Z H1 H2) : SB Z H H2 := fun c o n h => b c o n (a c o n h)
theorem SB.of {Z : Zone} {H H' : Hp} (a : Same H H') : SB Z H H' := fun b o _ h => a b o h
theorem SB.mono {Z Z' : Zone} {H H' : Hp} (a : SB Z H H') (h : ∀ b, Z b → Z' b) : SB Z' H H' := fun b o n q => a b o (fun z => n (h b z)) q
theorem same_new {H : Hp} {p : Addr} (h : H p = none) (o : HO) : Same H (upd H p o) := fun b u q => by rw [upd_ne (ne_of_none q h)]; exact q
theorem SB.new {Z : Zone} {H : Hp} {p : Addr} (h : H p = none) (o : HO) : SB Z H (upd H p o) := .of (same_new h o)
theorem SB.self {Z : Zone} {H : Hp} {W : Addr} (z : Z W) (o : HO) : SB Z H (upd H W o) := fun b u n q => by
  rw [upd_ne (fun e : b = W => n (by rw [e]; exact z))]; exact q
abbrev At1 (W : Addr) : Zone := fun a => a = W
theorem SB.selfW {H : Hp} {W : Addr} (o : HO) : SB (At1 W) H (upd H W o) := .self (Z := At1 W) rfl o
/-- what was new in between may be written -/
theorem SB.upd_new {Z : Zone} {p : Addr} {H H1 : Hp} (a : SB Z H H1) (h : H p = none) (o : HO) : SB Z H (upd H1 p o) := fun b u n q => by
  rw [upd_ne (ne_of_none q h)]; exact a b u n q
theorem Same.upd_new {p : Addr} {H H1 : Hp} (a : Same H H1) (h : H p = none) (o : HO) : Same H (upd H1 p o) := fun b u q => by
  rw [upd_ne (ne_of_none q h)]; exact a b u q
theorem Trk.same {H H' : Hp} (s : Same H H') {a : Addr} (h : Trk H a) : Trk H' a := fun e => by
  cases q : H a with
  | none => exact h q
  | some o => rw [s a o q] at e; cases e
theorem Trk.of {H : Hp} {a : Addr} {o : HO} (h : H a = some o) : Trk H a := fun e => by rw [e] at h; cases h
theorem Trk.not {H : Hp} {a : Addr} (h : H a = none) : ¬ Trk H a := fun e => e h

/-! ### the things of the law -/
inductive Th where
  | non | bl (b : Bool) | int (i : Int) | str (x : Str) | lst (xs : List Th) | tup (xs : List Th) | dic (xs : List Th)
mutual
/-- in the heap H the value v is the thing; nothing of it stands in Z -/
def At (Z : Zone) (H : Hp) : Th → V → Prop
  | .non, v => v = .non
  | .bl b, v => v = .bl b
  | .int i, v => v = .int i
  | .str x, v => v = .str x
  | .lst xs, v => ∃ a vs, v = .ref a ∧ ¬ Z a ∧ H a = some (.lst vs) ∧ AtAll Z H xs vs
  | .tup xs, v => ∃ a vs, v = .ref a ∧ ¬ Z a ∧ H a = some (.tup vs) ∧ AtAll Z H xs vs
  | .dic xs, v => ∃ a l vs, v = .ref a ∧ ¬ Z a ∧ ¬ Z l ∧ H a = some (.dK [(Sum.inr "a", .ref l), (Sum.inl 1, .non)]) ∧ H l = some (.lst vs) ∧ AtAll Z H xs vs
def AtAll (Z : Zone) (H : Hp) : List Th → List V → Prop
  | [], vs => vs = []
  | x :: xs, vs => ∃ u us, vs = u :: us ∧ At Z H x u ∧ AtAll Z H xs us
end
mutual
theorem At.step {Z Z' : Zone} {H H' : Hp} (s : SB Z H H') (z : ∀ a, ¬ Z a → Trk H a → ¬ Z' a) : ∀ {d : Th} {v : V}, At Z H d v → At Z' H' d v
  | .non, _, h => h
  | .bl _, _, h => h
  | .int _, _, h => h
  | .str _, _, h => h
  | .lst _, _, ⟨a, vs, e, n, h, t⟩ => ⟨a, vs, e, z a n (.of h), s _ _ n h, AtAll.step s z t⟩
  | .tup _, _, ⟨a, vs, e, n, h, t⟩ => ⟨a, vs, e, z a n (.of h), s _ _ n h, AtAll.step s z t⟩
  | .dic _, _, ⟨a, l, vs, e, n, m, h, g, t⟩ => ⟨a, l, vs, e, z a n (.of h), z l m (.of g), s _ _ n h, s _ _ m g, AtAll.step s z t⟩
theorem AtAll.step {Z Z' : Zone} {H H' : Hp} (s : SB Z H H') (z : ∀ a, ¬ Z a → Trk H a → ¬ Z' a) : ∀ {ds : List Th} {vs : List V}, AtAll Z H ds vs → AtAll Z' H' ds vs
  | [], _, h => h
  | _ :: _, _, ⟨u, us, e, h, t⟩ => ⟨u, us, e, At.step s z h, AtAll.step s z t⟩
end
theorem At.sb {Z : Zone} {H H' : Hp} (s : SB Z H H') {d : Th} {v : V} (h : At Z H d v) : At Z H' d v := h.step s fun _ n _ => n
theorem AtAll.sb {Z : Zone} {H H' : Hp} (s : SB Z H H') {d : List Th} {v : List V} (h : AtAll Z H d v) : AtAll Z H' d v := h.step s fun _ n _ => n
theorem At.same {Z : Zone} {H H' : Hp} (s : Same H H') {d : Th} {v : V} (h : At Z H d v) : At Z H' d v := h.sb (.of s)
theorem AtAll.same {Z : Zone} {H H' : Hp} (s : Same H H') {d : List Th} {v : List V} (h : AtAll Z H d v) : AtAll Z H' d v := h.sb (.of s)
theorem At.less {Z Z' : Zone} {H : Hp} (z : ∀ a, Z' a → Z a) {d : Th} {v : V} (h : At Z H d v) : At Z' H d v := h.step .rfl' fun a n _ m => n (z a m)
theorem AtAll.less {Z Z' : Zone} {H : Hp} (z : ∀ a, Z' a → Z a) {d : List Th} {v : List V} (h : AtAll Z H d v) : AtAll Z' H d v := h.step .rfl' fun a n _ m => n (z a m)
theorem AtAll.len {Z : Zone} {H : Hp} : ∀ {ds : List Th} {vs : List V}, AtAll Z H ds vs → vs.length = ds.length
  | [], _, h => by rw [show _ = [] from h]; rfl
  | _ :: _, _, ⟨u, us, e, _, t⟩ => by rw [e, List.length_cons, List.length_cons, t.len]
theorem AtAll.get {Z : Zone} {H : Hp} : ∀ {ds : List Th} {vs : List V} {i : Nat} {v : V}, AtAll Z H ds vs → vs[i]? = some v → ∃ d, ds[i]? = some d ∧ At Z H d v
  | [], _, _, _, h, e => by rw [show _ = [] from h] at e; simp at e
  | d :: _, _, 0, v, ⟨u, us, e, h, _⟩, q => by rw [e] at q; simp at q; subst q; exact ⟨d, rfl, h⟩
  | _ :: ds, _, i + 1, v, ⟨u, us, e, _, t⟩, q => by
    rw [e] at q
    obtain ⟨d, e1, h1⟩ := AtAll.get (i := i) t (by simpa using q)
    exact ⟨d, by simpa using e1, h1⟩
theorem AtAll.at {Z : Zone} {H : Hp} {ds : List Th} {vs : List V} {i : Nat} {d : Th} (h : AtAll Z H ds vs) (e : ds[i]? = some d) : ∃ v, vs[i]? = some v ∧ At Z H d v := by
  have hi : i < vs.length := by rw [h.len]; exact (List.getElem?_eq_some_iff.mp e).1
  obtain ⟨d', e1, h1⟩ := h.get (List.getElem?_eq_getElem hi)
  rw [e] at e1; cases e1
  exact ⟨_, List.getElem?_eq_getElem hi, h1⟩
theorem AtAll.nil {Z : Zone} {H : Hp} : AtAll Z H [] [] := rfl
theorem AtAll.cons {Z : Zone} {H : Hp} {d : Th} {ds : List Th} {v : V} {vs : List V} (h : At Z H d v) (t : AtAll Z H ds vs) : AtAll Z H (d :: ds) (v :: vs) := ⟨v, vs, rfl, h, t⟩
theorem AtAll.append {Z : Zone} {H : Hp} : ∀ {ds es : List Th} {vs us : List V}, AtAll Z H ds vs → AtAll Z H es us → AtAll Z H (ds ++ es) (vs ++ us)
  | [], _, _, _, h, t => by rw [show _ = [] from h]; exact t
  | _ :: _, _, _, _, ⟨u, us, e, h, t⟩, g => by subst e; exact ⟨u, _, rfl, h, t.append g⟩
theorem AtAll.take {Z : Zone} {H : Hp} : ∀ {ds : List Th} {vs : List V} (n : Nat), AtAll Z H ds vs → AtAll Z H (ds.take n) (vs.take n)
  | _, _, 0, _ => by rw [List.take_zero, List.take_zero]; exact .nil
  | [], _, n + 1, h => by rw [show _ = [] from h]; exact .nil
  | _ :: _, _, n + 1, ⟨u, us, e, h, t⟩ => by subst e; exact .cons h (t.take n)
theorem AtAll.drop {Z : Zone} {H : Hp} : ∀ {ds : List Th} {vs : List V} (n : Nat), AtAll Z H ds vs → AtAll Z H (ds.drop n) (vs.drop n)
  | _, _, 0, h => h
  | [], _, n + 1, h => by rw [show _ = [] from h]; exact .nil
  | _ :: _, _, n + 1, ⟨u, us, e, h, t⟩ => by subst e; exact t.drop n

/-! ### types -/
def ty : Th → String
  | .non => "NoneType" | .bl _ => "bool" | .int _ => "int" | .str _ => "str" | .lst _ => "list" | .tup _ => "tuple" | .dic _ => "dict"
def isI : Th → Bool
  | .int _ => true | .bl _ => true | _ => false
def isB : Th → Bool
  | .bl _ => true | _ => false
def isS : Th → Bool
  | .str _ => true | _ => false
def isT : Th → Bool
  | .tup _ => true | _ => false
theorem kitI : ∀ d : Th, kitB (ty d) "int" = some (isI d)
  | .non => (by decide +kernel : kitB "NoneType" "int" = some false)
  | .bl _ => (by decide +kernel : kitB "bool" "int" = some true)
  | .int _ => (by decide +kernel : kitB "int" "int" = some true)
  | .str _ => (by decide +kernel : kitB "str" "int" = some false)
  | .lst _ => (by decide +kernel : kitB "list" "int" = some false)
  | .tup _ => (by decide +kernel : kitB "tuple" "int" = some false)
  | .dic _ => (by decide +kernel : kitB "dict" "int" = some false)
theorem kitBo : ∀ d : Th, kitB (ty d) "bool" = some (isB d)
  | .non => (by decide +kernel : kitB "NoneType" "bool" = some false)
  | .bl _ => (by decide +kernel : kitB "bool" "bool" = some true)
  | .int _ => (by decide +kernel : kitB "int" "bool" = some false)
  | .str _ => (by decide +kernel : kitB "str" "bool" = some false)
  | .lst _ => (by decide +kernel : kitB "list" "bool" = some false)
  | .tup _ => (by decide +kernel : kitB "tuple" "bool" = some false)
  | .dic _ => (by decide +kernel : kitB "dict" "bool" = some false)
theorem kitS : ∀ d : Th, kitB (ty d) "str" = some (isS d)
  | .non => (by decide +kernel : kitB "NoneType" "str" = some false)
  | .bl _ => (by decide +kernel : kitB "bool" "str" = some false)
  | .int _ => (by decide +kernel : kitB "int" "str" = some false)
  | .str _ => (by decide +kernel : kitB "str" "str" = some true)
  | .lst _ => (by decide +kernel : kitB "list" "str" = some false)
  | .tup _ => (by decide +kernel : kitB "tuple" "str" = some false)
  | .dic _ => (by decide +kernel : kitB "dict" "str" = some false)
theorem kitT : ∀ d : Th, kitB (ty d) "tuple" = some (isT d)
  | .non => (by decide +kernel : kitB "NoneType" "tuple" = some false)
  | .bl _ => (by decide +kernel : kitB "bool" "tuple" = some false)
  | .int _ => (by decide +kernel : kitB "int" "tuple" = some false)
  | .str _ => (by decide +kernel : kitB "str" "tuple" = some false)
  | .lst _ => (by decide +kernel : kitB "list" "tuple" = some false)
  | .tup _ => (by decide +kernel : kitB "tuple" "tuple" = some true)
  | .dic _ => (by decide +kernel : kitB "dict" "tuple" = some false)
theorem At.tyx {K : PySem.W.Frag} {Z : Zone} {H : Hp} {d : Th} {v : V} (h : At Z H d v) : TyX K H v (.type (ty d)) := by
  cases d with
  | non => cases h; exact .base .non
  | bl b => cases h; exact .base (.bl b)
  | int i => cases h; exact .base (.int i)
  | str x => cases h; exact .base (.str x)
  | lst xs => obtain ⟨a, vs, rfl, _, e, _⟩ := h; exact .base (.lst e)
  | tup xs => obtain ⟨a, vs, rfl, _, e, _⟩ := h; exact .base (.tup e)
  | dic xs => obtain ⟨a, l, vs, rfl, _, _, e, _⟩ := h; exact .base (.dK e)
theorem rd_isi {K : PySem.W.Frag} {Z : Zone} {H : Hp} {d : Th} {v : V} {T : String} {b : Bool} {Q : VK} (h : At Z H d v) (e : kitB (ty d) T = some b) (q : Q (.bl b) H) : rIsi K [v, .ty T] H Q :=
  ⟨v, .ty T, _, _, b, rfl, .ty T, h.tyx, kit_ty e, q⟩

theorem iteB {c : Bool} {A B : Prop} (h1 : c = true → A) (h0 : c = false → B) : if c = true then A else B := by
  cases c with
  | true => exact iteT (h1 rfl)
  | false => exact iteF (h0 rfl)
/-- if tc: t, then the rest r; the test's answer b0 is known ahead -/
theorem rd_ifs {tc : TT} {t r : TS} {D : Ends} {σ : L2.St} {H1 : Hp} (b0 : Bool) (h : ∀ Q : Bool → Hp → Prop, (∀ H2, Same H1 H2 → Q b0 H2) → tc σ H1 Q)
    (q1 : ∀ H2, Same H1 H2 → b0 = true → t { D with nx := r D } σ H2) (q0 : ∀ H2, Same H1 H2 → b0 = false → r D σ H2) : tSeq (tIfS tc t tNext) r D σ H1 :=
  h (fun b H2 => if b = true then t { D with nx := r D } σ H2 else tNext { D with nx := r D } σ H2) fun H2 s2 => iteB (q1 H2 s2) (q0 H2 s2)
/-- a first statement s, then the rest r: behind s the slots and the heap are as I tells -/
theorem rd_seq {a r : TS} {D : Ends} {σ : L2.St} {H : Hp} (I : L2.St → Hp → Prop) (h : ∀ N : L2.St → Hp → Prop, (∀ σ' H', I σ' H' → N σ' H') → a { D with nx := N } σ H) (q : ∀ σ' H', I σ' H' → r D σ' H') : tSeq a r D σ H := h (r D) q
theorem rd_ifz {tc : TT} {t r : TS} {D : Ends} {σ : L2.St} {H : Hp} (I : L2.St → Hp → Prop) (h : ∀ N : L2.St → Hp → Prop, (∀ σ' H', I σ' H' → N σ' H') → tIfS tc t tNext { D with nx := N } σ H) (q : ∀ σ' H', I σ' H' → r D σ' H') : tSeq (tIfS tc t tNext) r D σ H := h (r D) q
theorem rd_ifx {tc : TT} {t r : TS} {D : Ends} {σ : L2.St} {H : Hp} (I : Hp → Prop) (h : ∀ N : L2.St → Hp → Prop, (∀ H', I H' → N σ H') → tIfS tc t tNext { D with nx := N } σ H) (q : ∀ H', I H' → r D σ H') : tSeq (tIfS tc t tNext) r D σ H := h (r D) q
/-- a list of values told of a tuple's things -/
theorem lc_inV {K : PySem.W.Frag} {Z : Zone} {H : Hp} {a : Addr} {vs : List V} {ds : List Th} {g : Th → V} {i : Nat} {own : List Nat} {te : TE} {σ : L2.St} {Q : Addr → Hp → Prop}
    (hT : H a = some (.tup vs)) (hA : AtAll Z H ds vs) (hz : ds.length ≤ 1000000) (hw : ∀ x, wipe ((wipe σ own).set i (some x)) own = wipe σ own)
    (hs : ∀ x d H2, d ∈ ds → Same H H2 → At Z H2 d x → ∀ R : VK, (∀ H3, Same H2 H3 → R (g d) H3) → te ((wipe σ own).set i (some x)) H2 R)
    (hd : ∀ D H', Same H H' → H D = none → H' D = some (.lst (ds.map g)) → Q D H') :
    ∀ D, H D = none → ∃ W : Nat → Nat → Hp → Prop, (∃ m, W 0 m (upd H D (.lst []))) ∧ ∀ i' m H, W i' m H →
      ((Itt K a).stop i' H ∧ Q D H) ∨ ((Itt K a).go i' H ∧ ∃ Nx : Hp → Prop, (∀ H', Nx H' → ∃ m', m' < m ∧ W (i' + 1) m' H') ∧ ∀ x H', (Itt K a).yld i' H x H' → gName i x (wipe σ own) H' fun σ2 H2 => wipe σ2 own = wipe σ own ∧ tYes σ2 H2 fun b H3 =>
        if b = true then te σ2 H3 fun y H4 => ∃ acc, H4 D = some (.lst acc) ∧ acc.length < sizeLine ∧ Nx (upd H4 D (.lst (acc ++ [y]))) else Nx H3) := by
  intro D hD
  refine lc_tup (xs := vs) (fun j H' => Same H H' ∧ H' D = some (.lst ((ds.take j).map g))) ⟨same_new hD _, upd_same⟩ (fun j H' _ p => .of (p.1 _ _ hT)) (fun j x H' e p => ?_) (fun H' p => ?_)
  · obtain ⟨d, e1, hx⟩ := hA.get e
    have hj : j < ds.length := (List.getElem?_eq_some_iff.mp e1).1
    refine ⟨hw x, iteT (B := Same H H' ∧ H' D = some (.lst ((ds.take (j + 1)).map g))) (hs x d H' (List.mem_of_getElem? e1) p.1 (hx.same p.1) _ fun H3 s3 => ⟨_, s3 _ _ p.2, ?_, Same.upd_new (p.1.trans s3) hD _, ?_⟩)⟩
    · rw [List.length_map, List.length_take, sizeLine_eq]; omega
    · rw [upd_same, List.take_add_one, e1]; simp
  · refine hd D H' p.1 hD ?_
    rw [p.2, hA.len, List.take_length]

/-- a list of truths made over a tuple of things -/
theorem lc_bl {K : PySem.W.Frag} {Z : Zone} {H : Hp} {a : Addr} {vs : List V} {ds : List Th} {f : Th → Bool} {i : Nat} {own : List Nat} {te : TE} {σ : L2.St} {Q : Addr → Hp → Prop}
    (hT : H a = some (.tup vs)) (hA : AtAll Z H ds vs) (hz : ds.length ≤ 1000000) (hw : ∀ x, wipe ((wipe σ own).set i (some x)) own = wipe σ own)
    (hs : ∀ x d H2, d ∈ ds → Same H H2 → At Z H2 d x → ∀ R : VK, (∀ H3, Same H2 H3 → R (.bl (f d)) H3) → te ((wipe σ own).set i (some x)) H2 R)
    (hd : ∀ D H', Same H H' → H D = none → H' D = some (.lst ((ds.map f).map V.bl)) → Q D H') :
    ∀ D, H D = none → ∃ W : Nat → Nat → Hp → Prop, (∃ m, W 0 m (upd H D (.lst []))) ∧ ∀ i' m H, W i' m H →
      ((Itt K a).stop i' H ∧ Q D H) ∨ ((Itt K a).go i' H ∧ ∃ Nx : Hp → Prop, (∀ H', Nx H' → ∃ m', m' < m ∧ W (i' + 1) m' H') ∧ ∀ x H', (Itt K a).yld i' H x H' → gName i x (wipe σ own) H' fun σ2 H2 => wipe σ2 own = wipe σ own ∧ tYes σ2 H2 fun b H3 =>
        if b = true then te σ2 H3 fun y H4 => ∃ acc, H4 D = some (.lst acc) ∧ acc.length < sizeLine ∧ Nx (upd H4 D (.lst (acc ++ [y]))) else Nx H3) := by
  intro D hD
  refine lc_tup (xs := vs) (fun j H' => Same H H' ∧ H' D = some (.lst (((ds.take j).map f).map V.bl))) ⟨same_new hD _, upd_same⟩ (fun j H' _ p => .of (p.1 _ _ hT)) (fun j x H' e p => ?_) (fun H' p => ?_)
  · obtain ⟨d, e1, hx⟩ := hA.get e
    have hj : j < ds.length := (List.getElem?_eq_some_iff.mp e1).1
    refine ⟨hw x, iteT (B := Same H H' ∧ H' D = some (.lst (((ds.take (j + 1)).map f).map V.bl))) (hs x d H' (List.mem_of_getElem? e1) p.1 (hx.same p.1) _ fun H3 s3 => ⟨_, s3 _ _ p.2, ?_, Same.upd_new (p.1.trans s3) hD _, ?_⟩)⟩
    · rw [List.length_map, List.length_map, List.length_take, sizeLine_eq]; omega
    · rw [upd_same, List.take_add_one, e1]; simp
  · refine hd D H' p.1 hD ?_
    rw [p.2, hA.len, List.take_length]

/-- .. over a text -/
theorem lc_blS {H : Hp} {z : Str} {f : Nat → Bool} {i : Nat} {own : List Nat} {te : TE} {σ : L2.St} {Q : Addr → Hp → Prop}
    (hz : z.cps.size ≤ 1000000) (hw : ∀ x, wipe ((wipe σ own).set i (some x)) own = wipe σ own)
    (hs : ∀ c H2, Same H H2 → ∀ R : VK, (∀ H3, Same H2 H3 → R (.bl (f c)) H3) → te ((wipe σ own).set i (some (.str ⟨#[c]⟩))) H2 R)
    (hd : ∀ D H', Same H H' → H D = none → H' D = some (.lst ((z.cps.toList.map f).map V.bl)) → Q D H') :
    ∀ D, H D = none → ∃ W : Nat → Nat → Hp → Prop, (∃ m, W 0 m (upd H D (.lst []))) ∧ ∀ i' m H, W i' m H →
      ((Its z).stop i' H ∧ Q D H) ∨ ((Its z).go i' H ∧ ∃ Nx : Hp → Prop, (∀ H', Nx H' → ∃ m', m' < m ∧ W (i' + 1) m' H') ∧ ∀ x H', (Its z).yld i' H x H' → gName i x (wipe σ own) H' fun σ2 H2 => wipe σ2 own = wipe σ own ∧ tYes σ2 H2 fun b H3 =>
        if b = true then te σ2 H3 fun y H4 => ∃ acc, H4 D = some (.lst acc) ∧ acc.length < sizeLine ∧ Nx (upd H4 D (.lst (acc ++ [y]))) else Nx H3) := by
  intro D hD
  refine lc_it walk_str (fun j H' => Same H H' ∧ H' D = some (.lst (((z.cps.toList.take j).map f).map V.bl))) ⟨same_new hD _, upd_same⟩ (fun _ _ _ _ => trivial) (fun j x H1 H' hj p y => ?_) (fun H' p => ?_)
  · obtain ⟨rfl, c, e1, rfl⟩ := y
    have e2 : z.cps.toList[j]? = some c := by rw [Array.getElem?_toList]; exact e1
    refine ⟨hw _, iteT (B := Same H H' ∧ H' D = some (.lst (((z.cps.toList.take (j + 1)).map f).map V.bl))) (hs c H' p.1 _ fun H3 s3 => ⟨_, s3 _ _ p.2, ?_, Same.upd_new (p.1.trans s3) hD _, ?_⟩)⟩
    · rw [List.length_map, List.length_map, List.length_take, Array.length_toList, sizeLine_eq]; omega
    · rw [upd_same, List.take_add_one, e2]; simp
  · refine hd D H' p.1 hD ?_
    rw [p.2, ← Array.length_toList, List.take_length]

/-! ### defs and their promises -/
section
variable {P : Program} {w : World} {K : PySem.W.Frag} {mg : Str → Option Value} {base : Heap} {CX : CXT}
structure Def (K : PySem.W.Frag) (mg : Str → Option Value) (x : Str) (st : Stmt) (ps : List Str) : Prop where
  ex : ∃ f fd, Fun K x x st f fd ∧ mg x = some (.ref f) ∧ Binds K fd ps []
/-- what the module's name x holds keeps the promise sp -/
structure Cal (P : Program) (w : World) (K : PySem.W.Frag) (mg : Str → Option Value) (base : Heap) (CX : CXT) (k : Nat) (x : Str) (ps : List Str) (sp : Sp) : Prop where
  ex : ∃ f fd, FnOk P w K mg base CX k f fd ps sp ∧ mg x = some (.ref f) ∧ PySem.W.keepIn K (.ref f) = true ∧ Binds K fd ps []
theorem Cal.mono {j k : Nat} {x : Str} {ps : List Str} {sp : Sp} (c : Cal P w K mg base CX j x ps sp) (h : j ≤ k) : Cal P w K mg base CX k x ps sp :=
  let ⟨f, fd, a, b, c, d⟩ := c.ex; ⟨f, fd, a.mono h, b, c, d⟩
theorem Cal.imp {k : Nat} {x : Str} {ps : List Str} {sp sp' : Sp} (c : Cal P w K mg base CX k x ps sp) (h : ∀ vs H Q E, sp' vs H Q E → sp vs H Q E) : Cal P w K mg base CX k x ps sp' :=
  let ⟨f, fd, a, b, c, d⟩ := c.ex; ⟨f, fd, a.imp h, b, c, d⟩
/-- THE RULE for a def -/
theorem Def.ok {x : Str} {st : Stmt} {N ps : List Str} {k : Nat} {sp : Sp} (d : Def K mg x st ps) (S : FnScope N ps (defScope st)) (len : ∀ vs H Q E, sp vs H Q E → vs.length = ps.length)
    (body : ∀ (f : Addr) (cdv : Value) (A : Around) (outer : List Env) (s : Shared) (H : Hp) (vs : List V) (Q : VK) (E : XK), Room k (A.deeper (envOfC x (defScope st) s.heap.objs.size f cdv)) → sp vs H Q E →
      ∃ t, PSs (cxOf CX0 P w K mg base N x (defScope st) f cdv A outer s H E).nox (defBody st) t ∧ t { nx := fun _ H' => Q .non H', rt := Q } (start N vs) H) : Cal P w K mg base CX0 (k + 1) x ps sp := by
  obtain ⟨f, fd, F, m, b⟩ := d.ex
  exact ⟨f, fd, F.ok S len (body f), m, F.kp, b⟩
end
section
variable {X : Cx} {CX : CXT} {k : Nat} {x : Str} {ps : List Str} {sp : Sp} {e : Expr} {es : List Expr} {t : TA} {p pos : Pos}
theorem pe_cal (C : Cal X.prog X.w X.K X.mg X.base CX0 k x ps sp) (hr : Room k X.A) (hg : Gl X x) (ha : PA X (e :: es) t) (hdb : (x == ("__debug__" : Str)) = false := by decide)
    (he : starEach (e :: es) X.env = (false, eval e X.env) :: starEach es X.env := by rfl) (hpl : (backTo pos (starEach es X.env)).any (·.1) = false := by rfl) :
    PE X (.Call (.Name x p) (e :: es) [] pos) (tCall sp [] E0 t) :=
  let ⟨_, _, F, m, kp, b⟩ := C.ex
  pe_call F hr hg m kp b .nil pass0 ha hdb he hpl
end
/-- len of a list, a tuple -/
def rLenS (K : PySem.W.Frag) : List V → Hp → VK → Prop := fun xs H Q => ∃ p ys, xs = [V.ref p] ∧ (SqL K H p ys ∨ SqT K H p ys) ∧ Q (V.int ((ys.length : Nat) : Int)) H
/-- tuple of a list, a tuple -/
def rTupOf (K : PySem.W.Frag) : List V → Hp → VK → Prop := fun xs H Q => ∃ p ys, xs = [.ref p] ∧ ((SqL K H p ys ∧ ∀ l, H l = none → Q (.ref l) (upd H l (.tup ys))) ∨ (SqT K H p ys ∧ Q (.ref p) H))
/-- the built-ins' names are the built-ins' still -/
structure Zs (mg : Str → Option Value) : Prop where
  len : mg "len" = none
  isinstance : mg "isinstance" = none
  int : mg "int" = none
  bool : mg "bool" = none
  str : mg "str" = none
  tuple : mg "tuple" = none
  list : mg "list" = none
  range : mg "range" = none
  all : mg "all" = none
  sum : mg "sum" = none
  repr : mg "repr" = none
  enumerate : mg "enumerate" = none
  sorted : mg "sorted" = none
  any : mg "any" = none
  set : mg "set" = none
/-- the module's numbers -/
structure Ms (mg : Str → Option Value) (t1 t2 t3 : Tok) : Prop where
  MOST_LETTERS : mg "MOST_LETTERS" = some (.int 8 t1)
  MOST_STATES : mg "MOST_STATES" = some (.int 30 t2)
  MOST_BITS : mg "MOST_BITS" = some (.int 60 t3)
def topS (i : Nat) : Stmt := PySem.Challenge.pw_keptlengths_k07_whole_texts_read_as_mach.main.body.getD i (.Pass ⟨0, 0, 0, 0⟩)
end KL
end
section
namespace KL
open PySem PySem.Spec PyProof.Rows L2
/-! ### what the judges tell, as plain functions -/
def isNum (d : Th) : Bool := isI d && !isB d
def inn (lo hi : Int) : Th → Bool
  | .int i => decide (lo ≤ i) && decide (i ≤ hi)
  | _ => false
def isPair : Th → Bool
  | .tup xs => decide (xs.length = 2)
  | _ => false
def stepB (n : Int) : Th → Bool
  | .tup [a, b] => inn 0 60 a && inn 0 (n - 1) b
  | _ => false
def isNon : Th → Bool
  | .non => true
  | _ => false
def stepO (n : Int) (d : Th) : Bool := isNon d || stepB n d
def rowB (z n : Int) : Th → Bool
  | .tup [e, .tup ss] => (isNon e || inn 1 60 e) && decide ((ss.length : Int) = z) && ss.all (stepO n)
  | _ => false
def num : Th → Int
  | .int i => i
  | _ => 0
def machB : Th → Bool
  | .tup [z, .tup rows] => inn 1 8 z && decide (1 ≤ rows.length) && decide (rows.length ≤ 30) && rows.all (rowB (num z) (rows.length : Int))
  | _ => false
def textB (z : Int) : Th → Bool
  | .tup ls => ls.all (inn 0 (z - 1))
  | _ => false
/-! all tuples are short -/
mutual
def shortT : Th → Bool
  | .tup xs => decide (xs.length ≤ 1000000) && shortL xs
  | .str x => decide (x.cps.size ≤ 1000000)
  | _ => true
def shortL : List Th → Bool
  | [] => true
  | x :: xs => shortT x && shortL xs
end
theorem shortL_get : ∀ {xs : List Th} {i : Nat} {d : Th}, shortL xs = true → xs[i]? = some d → shortT d = true
  | [], _, _, _, e => by simp at e
  | x :: xs, 0, d, h, e => by
    rw [shortL, Bool.and_eq_true] at h
    simp at e; subst e; exact h.1
  | x :: xs, i + 1, d, h, e => by
    rw [shortL, Bool.and_eq_true] at h
    exact shortL_get h.2 (by simpa using e)
theorem shortL_mem {xs : List Th} {d : Th} (h : shortL xs = true) (m : d ∈ xs) : shortT d = true := by
  obtain ⟨i, e⟩ := List.mem_iff_getElem?.mp m
  exact shortL_get h e
/-- of a thing: what f tells -/
def spTh (f : Th → Bool) : Sp := fun vs H Q _ => ∃ Z v d, vs = [v] ∧ At Z H d v ∧ shortT d = true ∧ ∀ H', Same H H' → Q (.bl (f d)) H'
def spTh1 (f : Int → Th → Bool) : Sp := fun vs H Q _ => ∃ Z v d i, vs = [v, .int i] ∧ At Z H d v ∧ shortT d = true ∧ ∀ H', Same H H' → Q (.bl (f i d)) H'
def spTh2 (f : Int → Int → Th → Bool) : Sp := fun vs H Q _ => ∃ Z v d i j, vs = [v, .int i, .int j] ∧ At Z H d v ∧ shortT d = true ∧ ∀ H', Same H H' → Q (.bl (f i j d)) H'
abbrev sc_is_numberN : List Str := ["thing"]
abbrev s_is_number : Stmt := topS 4
theorem sc_is_number : FnScope ["thing"] ["thing"] (defScope s_is_number) := ⟨rfl, rfl, rfl, by decide +kernel, rfl, by decide +kernel, by decide +kernel⟩
abbrev sc_is_withinN : List Str := ["thing", "low", "high"]
abbrev s_is_within : Stmt := topS 5
theorem sc_is_within : FnScope ["thing", "low", "high"] ["thing", "low", "high"] (defScope s_is_within) := ⟨rfl, rfl, rfl, by decide +kernel, rfl, by decide +kernel, by decide +kernel⟩
abbrev sc_is_pairN : List Str := ["thing"]
abbrev s_is_pair : Stmt := topS 6
theorem sc_is_pair : FnScope ["thing"] ["thing"] (defScope s_is_pair) := ⟨rfl, rfl, rfl, by decide +kernel, rfl, by decide +kernel, by decide +kernel⟩
abbrev sc_is_sizeN : List Str := ["thing"]
abbrev s_is_size : Stmt := topS 13
theorem sc_is_size : FnScope ["thing"] ["thing"] (defScope s_is_size) := ⟨rfl, rfl, rfl, by decide +kernel, rfl, by decide +kernel, by decide +kernel⟩
abbrev sc_is_stepN : List Str := ["thing", "states", "more", "state"]
abbrev s_is_step : Stmt := topS 15
theorem sc_is_step : FnScope ["thing", "states", "more", "state"] ["thing", "states"] (defScope s_is_step) := ⟨rfl, rfl, rfl, by decide +kernel, rfl, by decide +kernel, by decide +kernel⟩
section
variable {P : Program} {w : World} {K : PySem.W.Frag} {mg : Str → Option Value} {base : Heap} {k : Nat}
theorem ok_is_number (Z : Zs mg) (d : Def K mg "is_number" s_is_number ["thing"]) : Cal P w K mg base CX0 (k + 1) "is_number" ["thing"] (spTh isNum) := by
  refine d.ok sc_is_number (fun vs H Q E h => ?_) (fun f cdv A outer s H vs Q E hr h => ?_)
  · obtain ⟨_, _, _, rfl, _⟩ := h; rfl
  obtain ⟨Zn, v, d, rfl, h, _, q⟩ := h
  refine ⟨_, (pss_one (ps_ret (pe_and (pe_callB (id := "isinstance") call_isi (by rfl) Z.isinstance (by decide +kernel) (pa_cons (pv 0) (pa_cons (pe_bltn (v := .ty "int") (by rfl) Z.int (by decide +kernel) rfl) pa_nil))) (pe_one (pe_not (pe_callB (id := "isinstance") call_isi (by rfl) Z.isinstance (by decide +kernel) (pa_cons (pv 0) (pa_cons (pe_bltn (v := .ty "bool") (by rfl) Z.bool (by decide +kernel) rfl) pa_nil)))))))), ?_⟩
  refine ⟨v, rfl, _, _, _, _, _, rfl, .ty _, (At.tyx (h)), kit_ty (kitI d), _, rfl, iteB (fun e => ?_) (fun e => ?_)⟩
  · refine ⟨v, rfl, _, _, _, _, _, rfl, .ty _, (At.tyx (h)), kit_ty (kitBo d), _, rfl, ?_⟩
    have q' := q H (Same.refl H)
    rw [isNum, e] at q'
    exact q'
  · have q' := q H (Same.refl H)
    rw [isNum, e] at q'
    exact q'
theorem isNum_int {d : Th} (h : isNum d = true) : ∃ i, d = .int i := by cases d <;> first | exact ⟨_, rfl⟩ | cases h
theorem ok_is_within (c_is_number : Cal P w K mg base CX0 k "is_number" ["thing"] (spTh isNum)) (d : Def K mg "is_within" s_is_within ["thing", "low", "high"]) : Cal P w K mg base CX0 (k + 1) "is_within" ["thing", "low", "high"] (spTh2 inn) := by
  refine d.ok sc_is_within (fun vs H Q E h => ?_) (fun f cdv A outer s H vs Q E hr h => ?_)
  · obtain ⟨_, _, _, _, _, rfl, _⟩ := h; rfl
  obtain ⟨Zn, v, d, lo, hi, rfl, h, sd, q⟩ := h
  refine ⟨_, (pss_one (ps_ret (pe_and (pe_cal c_is_number hr (by rfl) (pa_cons (pv 0) pa_nil)) (pe_one (pe_chain op_le op_le (pv 1) (pv 0) (pv 2)))))), ?_⟩
  refine ⟨v, rfl, Zn, v, d, rfl, h, sd, fun H1 s1 => ⟨_, rfl, iteB (fun e => ?_) (fun e => ?_)⟩⟩
  · obtain ⟨i, rfl⟩ := isNum_int e
    cases h
    refine ⟨_, rfl, _, rfl, _, _, rfl, rfl, _, rfl, iteB (fun e1 => ?_) (fun e1 => ?_)⟩
    · refine ⟨_, rfl, _, _, rfl, rfl, ?_⟩
      have q' := q H1 s1
      rw [inn, e1] at q'
      exact q'
    · have q' := q H1 s1
      rw [inn, e1] at q'
      exact q'
  · have q' := q H1 s1
    rw [show inn lo hi d = false by cases d <;> first | rfl | cases e] at q'
    exact q'
theorem isT_tup {d : Th} (h : isT d = true) : ∃ xs, d = .tup xs := by cases d <;> first | exact ⟨_, rfl⟩ | cases h
theorem ok_is_pair (Z : Zs mg) (d : Def K mg "is_pair" s_is_pair ["thing"]) : Cal P w K mg base CX0 (k + 1) "is_pair" ["thing"] (spTh isPair) := by
  refine d.ok sc_is_pair (fun vs H Q E h => ?_) (fun f cdv A outer s H vs Q E hr h => ?_)
  · obtain ⟨_, _, _, rfl, _⟩ := h; rfl
  obtain ⟨Zn, v, d, rfl, h, _, q⟩ := h
  refine ⟨_, (pss_one (ps_ret (pe_and (pe_callB (id := "isinstance") call_isi (by rfl) Z.isinstance (by decide +kernel) (pa_cons (pv 0) (pa_cons (pe_bltn (v := .ty "tuple") (by rfl) Z.tuple (by decide +kernel) rfl) pa_nil))) (pe_one (pe_cmpR op_eq (pe_callB (id := "len") call_len_seq (by rfl) Z.len (by decide +kernel) (pa_cons (pv 0) pa_nil)) pe_int (nomark _)))))), ?_⟩
  refine ⟨v, rfl, _, _, _, _, _, rfl, .ty _, (At.tyx (h)), kit_ty (kitT d), _, rfl, iteB (fun e => ?_) (fun e => ?_)⟩
  · obtain ⟨xs, rfl⟩ := isT_tup e
    obtain ⟨a, us, rfl, _, ea, ha⟩ := h
    refine ⟨_, rfl, a, us, rfl, .inr (.of ea), rfl, ?_⟩
    have q' := q H (Same.refl H)
    rw [isPair] at q'
    rw [ha.len, show decide (V.int ((xs.length : Nat) : Int) = V.int 2) = decide (xs.length = 2) from decide_eq_decide.mpr ⟨fun e => by injection e with e; omega, fun e => by rw [e]; rfl⟩]
    exact q'
  · have q' := q H (Same.refl H)
    rw [show isPair d = false by cases d <;> first | rfl | cases e] at q'
    exact q'
theorem ok_is_size {t1 t2 t3 : Tok} (M : Ms mg t1 t2 t3) (c_is_within : Cal P w K mg base CX0 k "is_within" ["thing", "low", "high"] (spTh2 inn)) (d : Def K mg "is_size" s_is_size ["thing"]) : Cal P w K mg base CX0 (k + 1) "is_size" ["thing"] (spTh (inn 1 8)) := by
  refine d.ok sc_is_size (fun vs H Q E h => ?_) (fun f cdv A outer s H vs Q E hr h => ?_)
  · obtain ⟨_, _, _, rfl, _⟩ := h; rfl
  obtain ⟨Zn, v, d, rfl, h, sd, q⟩ := h
  refine ⟨_, (pss_one (ps_ret (pe_cal c_is_within hr (by rfl) (pa_cons (pv 0) (pa_cons pe_int (pa_cons (pe_glob (v := .int 8) (by rfl) M.MOST_LETTERS ⟨_, rfl⟩) pa_nil)))))), ?_⟩
  exact ⟨v, rfl, Zn, v, d, 1, 8, rfl, h, sd, fun H1 s1 => q H1 s1⟩
theorem isPair_tup {d : Th} (h : isPair d = true) : ∃ a b, d = .tup [a, b] := by
  cases d with
  | tup xs =>
    rw [isPair, decide_eq_true_eq] at h
    match xs, h with
    | [a, b], _ => exact ⟨a, b, rfl⟩
  | _ => cases h
theorem At.pair {Z : Zone} {H : Hp} {a b : Th} {v : V} (h : At Z H (.tup [a, b]) v) : ∃ p u w', v = .ref p ∧ H p = some (.tup [u, w']) ∧ At Z H a u ∧ At Z H b w' := by
  obtain ⟨p, vs, rfl, _, e, u, us, rfl, h1, w', ws, rfl, h2, e3⟩ := h
  rw [show ws = [] from e3] at e
  exact ⟨p, u, w', rfl, e, h1, h2⟩
theorem short_pair {a b : Th} (h : shortT (.tup [a, b]) = true) : shortT a = true ∧ shortT b = true := by
  simp only [shortT, shortL, Bool.and_eq_true] at h
  exact ⟨h.2.1, h.2.2.1⟩
theorem short_tup {xs : List Th} (h : shortT (.tup xs) = true) : xs.length ≤ 1000000 ∧ shortL xs = true := by
  simp only [shortT, Bool.and_eq_true, decide_eq_true_eq] at h
  exact h
theorem not_true {b : Bool} (h : (!b) = true) : b = false := by cases b <;> first | rfl | cases h
theorem not_false' {b : Bool} (h : (!b) = false) : b = true := by cases b <;> first | rfl | cases h
theorem At.isN {Z : Zone} {H : Hp} {d : Th} {v : V} (h : At Z H d v) : decide (v = .non) = isNon d := by
  cases d with
  | non => cases h; rfl
  | bl b => cases h; rfl
  | int i => cases h; rfl
  | str x => cases h; rfl
  | lst xs => obtain ⟨a, vs, rfl, _⟩ := h; rfl
  | tup xs => obtain ⟨a, vs, rfl, _⟩ := h; rfl
  | dic xs => obtain ⟨a, l, vs, rfl, _⟩ := h; rfl
theorem ok_is_step {t1 t2 t3 : Tok} (M : Ms mg t1 t2 t3) (c_is_pair : Cal P w K mg base CX0 k "is_pair" ["thing"] (spTh isPair)) (c_is_within : Cal P w K mg base CX0 k "is_within" ["thing", "low", "high"] (spTh2 inn)) (d : Def K mg "is_step" s_is_step ["thing", "states"]) : Cal P w K mg base CX0 (k + 1) "is_step" ["thing", "states"] (spTh1 stepB) := by
  refine d.ok sc_is_step (fun vs H Q E h => ?_) (fun f cdv A outer s H vs Q E hr h => ?_)
  · obtain ⟨_, _, _, _, rfl, _⟩ := h; rfl
  obtain ⟨Zn, v, d, n, rfl, h, sd, q⟩ := h
  refine ⟨_, (pss_cons (ps_if (pt_not (pt_val (pe_cal c_is_pair hr (by rfl) (pa_cons (pv 0) pa_nil)))) (pss_one (ps_ret pe_bl)) pss_nil)
      (pss_cons (ps_asg (pv 0) (pg_tup (by rfl) (pgs_cons (pg_name (i := 2) sc_is_step.nd rfl (Or.inl rfl)) (pgs_cons (pg_name (i := 3) sc_is_step.nd rfl (Or.inl rfl)) pgs_nil))))
      (pss_one (ps_ret (pe_and (pe_cal c_is_within hr (by rfl) (pa_cons (pv 2) (pa_cons pe_int (pa_cons (pe_glob (v := .int 60) (by rfl) M.MOST_BITS ⟨_, rfl⟩) pa_nil)))) (pe_one (pe_cal c_is_within hr (by rfl) (pa_cons (pv 3) (pa_cons pe_int (pa_cons (pe_op op_sub (pv 1) pe_int) pa_nil)))))))))), ?_⟩
  refine ⟨v, rfl, Zn, v, d, rfl, h, sd, fun H1 s1 => ⟨_, rfl, iteB (fun e => ?_) (fun e => ?_)⟩⟩
  · have q' := q H1 s1
    rw [show stepB n d = false by
      have e' := not_true e
      cases d with
      | tup xs => match xs, e' with
        | [], _ => rfl
        | [_], _ => rfl
        | [_, _], e' => cases e'
        | _ :: _ :: _ :: _, _ => rfl
      | _ => rfl] at q'
    exact q'
  · obtain ⟨a, b, rfl⟩ := isPair_tup (not_false' e)
    obtain ⟨p, u, w', rfl, ep, ha, hb⟩ := (h.same s1).pair
    obtain ⟨sa, sb⟩ := short_pair sd
    refine ⟨_, rfl, p, [u, w'], rfl, .of ep, rfl, u, [w'], rfl, w', [], rfl, rfl, ?_⟩
    refine ⟨u, rfl, Zn, u, a, 0, 60, rfl, ha, sa, fun H2 s2 => ⟨_, rfl, iteB (fun e1 => ?_) (fun e1 => ?_)⟩⟩
    · refine ⟨w', rfl, _, rfl, _, _, rfl, rfl, Zn, w', b, 0, n - 1, rfl, hb.same s2, sb, fun H3 s3 => ?_⟩
      have q' := q H3 (s1.trans (s2.trans s3))
      rw [stepB, e1] at q'
      exact q'
    · have q' := q H2 (s1.trans s2)
      rw [stepB, e1] at q'
      exact q'
abbrev sc_is_rowN : List Str := ["thing", "size", "states", "end", "steps", "step"]
abbrev s_is_row : Stmt := topS 14
theorem sc_is_row : FnScope ["thing", "size", "states", "end", "steps", "step"] ["thing", "size", "states"] (defScope s_is_row) := ⟨rfl, rfl, rfl, by decide +kernel, rfl, by decide +kernel, by decide +kernel⟩
def tlen : Th → Nat
  | .tup xs => xs.length
  | _ => 0
theorem rowB_not {z n : Int} {d : Th} (h : isPair d = false) : rowB z n d = false := by
  cases d with
  | tup xs =>
    match xs, h with
    | [], _ => rfl
    | [_], _ => rfl
    | [_, _], h => cases h
    | a :: b :: c :: r, _ => cases b <;> rfl
  | _ => rfl
theorem rowB_end {z n : Int} {a b : Th} (h : (!(isNon a || inn 1 60 a)) = true) : rowB z n (.tup [a, b]) = false := by
  cases b with
  | tup ss => rw [rowB, not_true h]; rfl
  | _ => rfl
theorem rowB_len {z n : Int} {a b : Th} (h : (!(isT b && decide (((tlen b : Nat) : Int) = z))) = true) : rowB z n (.tup [a, b]) = false := by
  have h' := not_true h
  cases b with
  | tup ss =>
    rw [show isT (Th.tup ss) = true from rfl, Bool.true_and] at h'
    rw [rowB, show decide ((ss.length : Int) = z) = false from h', Bool.and_false, Bool.false_and]
  | _ => rfl
theorem ok_is_row {t1 t2 t3 : Tok} (Z : Zs mg) (M : Ms mg t1 t2 t3) (c_is_pair : Cal P w K mg base CX0 k "is_pair" ["thing"] (spTh isPair)) (c_is_within : Cal P w K mg base CX0 k "is_within" ["thing", "low", "high"] (spTh2 inn)) (c_is_step : Cal P w K mg base CX0 k "is_step" ["thing", "states"] (spTh1 stepB)) (d : Def K mg "is_row" s_is_row ["thing", "size", "states"]) : Cal P w K mg base CX0 (k + 1) "is_row" ["thing", "size", "states"] (spTh2 rowB) := by
  refine d.ok sc_is_row (fun vs H Q E h => ?_) (fun f cdv A outer s H vs Q E hr h => ?_)
  · obtain ⟨_, _, _, _, _, rfl, _⟩ := h; rfl
  obtain ⟨Zn, v, d, z, n, rfl, h, sd, q⟩ := h
  refine ⟨_, (pss_cons (ps_if (pt_not (pt_val (pe_cal c_is_pair hr (by rfl) (pa_cons (pv 0) pa_nil)))) (pss_one (ps_ret pe_bl)) pss_nil)
      (pss_cons (ps_asg (pv 0) (pg_tup (by rfl) (pgs_cons (pg_name (i := 3) sc_is_row.nd rfl (Or.inl rfl)) (pgs_cons (pg_name (i := 4) sc_is_row.nd rfl (Or.inl rfl)) pgs_nil))))
      (pss_cons (ps_if (PW.pt (pw_and (pt_cmpR op_notN (pv 3) pe_non (nomark _)) (pw_and1 (pt_not (pt_val (pe_cal c_is_within hr (by rfl) (pa_cons (pv 3) (pa_cons pe_int (pa_cons (pe_glob (v := .int 60) (by rfl) M.MOST_BITS ⟨_, rfl⟩) pa_nil))))))))) (pss_one (ps_ret pe_bl)) pss_nil)
      (pss_cons (ps_if (PW.pt (pw_or (pt_not (pt_val (pe_callB (id := "isinstance") call_isi (by rfl) Z.isinstance (by decide +kernel) (pa_cons (pv 4) (pa_cons (pe_bltn (v := .ty "tuple") (by rfl) Z.tuple (by decide +kernel) rfl) pa_nil))))) (pw_or1 (pt_cmpR op_ne (pe_callB (id := "len") call_len_seq (by rfl) Z.len (by decide +kernel) (pa_cons (pv 4) pa_nil)) (pv 1) (nomark _))))) (pss_one (ps_ret pe_bl)) pss_nil)
      (pss_one (ps_ret (pe_callB (id := "all") (cr_all rfl) (by rfl) Z.all (by decide +kernel) (pa_cons (pe_lc (own := [("step", 5)]) (g := gName 5) (tt := tYes) rfl sc_is_row.nd (pi_tup (pv 4)) (blkOk_by (N := ["thing", "size", "states", "end", "steps", "step"]) (sc := defScope s_is_row) (by decide +kernel)) (fun _ _ _ _ _ => (pg_name (i := 5) sc_is_row.nd rfl (Or.inl rfl))) (fun _ _ _ _ _ => pts_nil) (fun _ _ _ _ _ => (pe_or (pe_cmpR op_isN (pv 5) pe_non (nomark _)) (pe_one (pe_cal c_is_step hr (by rfl) (pa_cons (pv 5) (pa_cons (pv 2) pa_nil))))))) pa_nil)))))))), ?_⟩
  refine ⟨v, rfl, Zn, v, d, rfl, h, sd, fun H1 s1 => ⟨_, rfl, iteB (fun e => ?_) (fun e => ?_)⟩⟩
  · have q' := q H1 s1
    rw [rowB_not (not_true e)] at q'
    exact q'
  obtain ⟨a, b, rfl⟩ := isPair_tup (not_false' e)
  obtain ⟨p, u, w', rfl, ep, ha, hb⟩ := (h.same s1).pair
  obtain ⟨sa, sb⟩ := short_pair sd
  refine ⟨_, rfl, p, [u, w'], rfl, .of ep, rfl, u, [w'], rfl, w', [], rfl, rfl, ?_⟩
  -- if end is not None and not is_within(end, ..)
  try dsimp only
  refine rd_ifs (!(isNon a || inn 1 60 a)) (fun R hR => ?_) (fun H2 s2 e2 => ?_) (fun H2 s2 e2 => ?_)
  · refine ⟨u, rfl, rfl, _, rfl, iteB (fun e1 => ?_) (fun e1 => ?_)⟩
    · rw [ha.isN] at e1
      refine ⟨u, rfl, Zn, u, a, 1, 60, rfl, ha, sa, fun H2 s2 => ⟨_, rfl, ?_⟩⟩
      have r' := hR H2 s2
      rw [not_true e1, Bool.false_or] at r'
      exact r'
    · rw [ha.isN] at e1
      have r' := hR H1 (Same.refl H1)
      rw [not_false' e1, Bool.true_or] at r'
      exact r'
  · have q' := q H2 (s1.trans s2)
    rw [rowB_end e2] at q'
    exact q'
  have eA := not_false' e2
  try dsimp only
  refine rd_ifs (!(isT b && decide (((tlen b : Nat) : Int) = z))) (fun R hR => ?_) (fun H3 s3 e3 => ?_) (fun H3 s3 e3 => ?_)
  · refine ⟨w', rfl, _, _, _, _, _, rfl, .ty _, (At.tyx (hb.same s2)), kit_ty (kitT b), _, rfl, iteB (fun e3 => ?_) (fun e3 => ?_)⟩
    · have r' := hR H2 (Same.refl H2)
      rw [not_true e3, Bool.false_and] at r'
      exact r'
    · obtain ⟨ss, rfl⟩ := isT_tup (not_false' e3)
      obtain ⟨p2, us, rfl, _, e2', hs⟩ := hb.same s2
      refine ⟨_, rfl, p2, us, rfl, .inr (.of e2'), _, rfl, rfl, _, rfl, ?_⟩
      have r' := hR H2 (Same.refl H2)
      rw [hs.len]
      rw [show isT (Th.tup ss) = true from rfl, Bool.true_and] at r'
      rw [show decide (V.int ((ss.length : Nat) : Int) = V.int z) = decide (((tlen (.tup ss) : Nat) : Int) = z) from decide_eq_decide.mpr ⟨fun e => by injection e, fun e => congrArg V.int e⟩]
      exact r'
  · have q' := q H3 (s1.trans (s2.trans s3))
    rw [rowB_len e3] at q'
    exact q'
  have e4 := not_false' e3
  rw [Bool.and_eq_true, decide_eq_true_eq] at e4
  obtain ⟨ss, rfl⟩ := isT_tup e4.1
  obtain ⟨p2, us, rfl, _, e2', hs⟩ := (hb.same s2).same s3
  obtain ⟨l1, l2⟩ := short_tup sb
  refine ⟨_, rfl, p2, rfl, ⟨_, .of e2'⟩, lc_bl (f := stepO n) e2' hs l1 (fun _ => rfl) (fun x dx H4 md s4 hx R hR => ?_) (fun D H4 s4 hD eD => ⟨D, _, rfl, .of eD, ?_⟩)⟩
  · refine ⟨x, rfl, rfl, _, rfl, iteB (fun e5 => ?_) (fun e5 => ?_)⟩
    · rw [hx.isN] at e5
      have r' := hR H4 (Same.refl H4)
      rw [stepO, e5, Bool.true_or] at r'
      exact r'
    · rw [hx.isN] at e5
      refine ⟨x, rfl, _, rfl, Zn, x, dx, n, rfl, hx, ?_, fun H5 s5 => ?_⟩
      · exact shortL_mem l2 md
      · have r' := hR H5 s5
        rw [stepO, e5, Bool.false_or] at r'
        exact r'
  · have q' := q H4 (s1.trans (s2.trans (s3.trans s4)))
    rw [show rowB z n (.tup [a, .tup ss]) = ((ss.map (stepO n)).all id) by
      rw [rowB, eA, show decide ((ss.length : Int) = z) = true from decide_eq_true e4.2, List.all_map]; rfl] at q'
    exact q'
abbrev sc_is_framedN : List Str := ["thing", "size", "rows"]
abbrev s_is_framed : Stmt := topS 12
theorem sc_is_framed : FnScope ["thing", "size", "rows"] ["thing"] (defScope s_is_framed) := ⟨rfl, rfl, rfl, by decide +kernel, rfl, by decide +kernel, by decide +kernel⟩
abbrev sc_is_machineN : List Str := ["thing", "size", "rows", "row"]
abbrev s_is_machine : Stmt := topS 11
theorem sc_is_machine : FnScope ["thing", "size", "rows", "row"] ["thing"] (defScope s_is_machine) := ⟨rfl, rfl, rfl, by decide +kernel, rfl, by decide +kernel, by decide +kernel⟩
theorem machB_not {d : Th} (h : isPair d = false) : machB d = false := by
  cases d with
  | tup xs =>
    match xs, h with
    | [], _ => rfl
    | [_], _ => rfl
    | [_, _], h => cases h
    | a :: b :: c :: r, _ => cases b <;> rfl
  | _ => rfl
theorem machB_size {z r : Th} (h : (!(inn 1 8 z && isT r)) = true) : machB (.tup [z, r]) = false := by
  have h' := not_true h
  cases r with
  | tup rows =>
    rw [show isT (Th.tup rows) = true from rfl, Bool.and_true] at h'
    rw [machB, h', Bool.false_and, Bool.false_and, Bool.false_and]
  | _ => rfl
theorem inn_int {lo hi : Int} {d : Th} (h : inn lo hi d = true) : ∃ i, d = .int i ∧ lo ≤ i ∧ i ≤ hi := by
  cases d with
  | int i =>
    rw [inn, Bool.and_eq_true, decide_eq_true_eq, decide_eq_true_eq] at h
    exact ⟨i, rfl, h.1, h.2⟩
  | _ => cases h
def framB : Th → Bool
  | .tup [a, .tup rows] => inn 1 8 a && decide (1 ≤ rows.length) && decide (rows.length ≤ 30)
  | _ => false
theorem framB_not {d : Th} (h : isPair d = false) : framB d = false := by
  cases d with
  | tup xs =>
    match xs, h with
    | [], _ => rfl
    | [_], _ => rfl
    | [_, _], h => cases h
    | a :: b :: c :: r, _ => cases b <;> rfl
  | _ => rfl
theorem framB_is {d : Th} (h : framB d = true) : ∃ z rows, d = .tup [.int z, .tup rows] ∧ 1 ≤ z ∧ z ≤ 8 ∧ 1 ≤ rows.length ∧ rows.length ≤ 30 := by
  cases d with
  | tup xs =>
    match xs, h with
    | [a, .tup rows], h =>
      rw [framB, Bool.and_eq_true, Bool.and_eq_true, decide_eq_true_eq, decide_eq_true_eq] at h
      obtain ⟨z, rfl, z1, z8⟩ := inn_int h.1.1
      exact ⟨z, rows, rfl, z1, z8, h.1.2, h.2⟩
  | _ => cases h
theorem machB_fram {d : Th} (h : framB d = false) : machB d = false := by
  cases d with
  | tup xs =>
    match xs, h with
    | [], _ => rfl
    | [_], _ => rfl
    | [a, .tup rows], h =>
      rw [framB] at h
      rw [machB, h, Bool.false_and]
    | [a, .non], _ | [a, .bl _], _ | [a, .int _], _ | [a, .str _], _ | [a, .lst _], _ | [a, .dic _], _ => rfl
    | a :: b :: c :: r, _ => cases b <;> rfl
  | _ => rfl
theorem machB_rows {a : Th} {rows : List Th} (h : framB (.tup [a, .tup rows]) = true) : machB (.tup [a, .tup rows]) = rows.all (rowB (num a) (rows.length : Int)) := by
  rw [framB] at h
  rw [machB, h, Bool.true_and]
theorem ok_is_framed {t1 t2 t3 : Tok} (Z : Zs mg) (M : Ms mg t1 t2 t3) (c_is_pair : Cal P w K mg base CX0 k "is_pair" ["thing"] (spTh isPair)) (c_is_size : Cal P w K mg base CX0 k "is_size" ["thing"] (spTh (inn 1 8))) (d : Def K mg "is_framed" s_is_framed ["thing"]) : Cal P w K mg base CX0 (k + 1) "is_framed" ["thing"] (spTh framB) := by
  refine d.ok sc_is_framed (fun vs H Q E h => ?_) (fun f cdv A outer s H vs Q E hr h => ?_)
  · obtain ⟨_, _, _, rfl, _⟩ := h; rfl
  obtain ⟨Zn, v, d, rfl, h, sd, q⟩ := h
  refine ⟨_, (pss_cons (ps_if (pt_not (pt_val (pe_cal c_is_pair hr (by rfl) (pa_cons (pv 0) pa_nil)))) (pss_one (ps_ret pe_bl)) pss_nil)
      (pss_cons (ps_asg (pv 0) (pg_tup (by rfl) (pgs_cons (pg_name (i := 1) sc_is_framed.nd rfl (Or.inl rfl)) (pgs_cons (pg_name (i := 2) sc_is_framed.nd rfl (Or.inl rfl)) pgs_nil))))
      (pss_one (ps_ret (pe_and (pe_cal c_is_size hr (by rfl) (pa_cons (pv 1) pa_nil)) (pe_and (pe_callB (id := "isinstance") call_isi (by rfl) Z.isinstance (by decide +kernel) (pa_cons (pv 2) (pa_cons (pe_bltn (v := .ty "tuple") (by rfl) Z.tuple (by decide +kernel) rfl) pa_nil))) (pe_one (pe_chain op_le op_le pe_int (pe_callB (id := "len") call_len_seq (by rfl) Z.len (by decide +kernel) (pa_cons (pv 2) pa_nil)) (pe_glob (v := .int 30) (by rfl) M.MOST_STATES ⟨_, rfl⟩))))))))), ?_⟩
  refine ⟨v, rfl, Zn, v, d, rfl, h, sd, fun H1 s1 => ⟨_, rfl, iteB (fun e => ?_) (fun e => ?_)⟩⟩
  · have q' := q H1 s1
    rw [framB_not (not_true e)] at q'
    exact q'
  obtain ⟨a, b, rfl⟩ := isPair_tup (not_false' e)
  obtain ⟨p, u, w', rfl, ep, ha, hb⟩ := (h.same s1).pair
  obtain ⟨sa, sb⟩ := short_pair sd
  refine ⟨_, rfl, p, [u, w'], rfl, .of ep, rfl, u, [w'], rfl, w', [], rfl, rfl, ?_⟩
  refine ⟨u, rfl, Zn, u, a, rfl, ha, sa, fun H2 s2 => ⟨_, rfl, ?_⟩⟩
  have s12 := s1.trans s2
  cases e2 : inn 1 8 a with
  | false =>
    have q' := q H2 s12
    rw [show framB (.tup [a, b]) = false by cases b <;> first | rfl | (rw [framB, e2]; rfl)] at q'
    exact q'
  | true =>
    refine ⟨w', rfl, _, _, _, _, _, rfl, .ty _, (At.tyx (hb.same s2)), kit_ty (kitT b), _, rfl, ?_⟩
    cases e3 : isT b with
    | false =>
      have q' := q H2 s12
      rw [show framB (.tup [a, b]) = false by cases b <;> first | rfl | cases e3] at q'
      exact q'
    | true =>
      obtain ⟨rows, rfl⟩ := isT_tup e3
      obtain ⟨p2, us, rfl, _, e2', hs⟩ := hb.same s2
      have hl : ((us.length : Nat) : Int) = ((rows.length : Nat) : Int) := by rw [hs.len]
      have d1 : decide ((1 : Int) ≤ ((us.length : Nat) : Int)) = decide (1 ≤ rows.length) := by rw [hl]; exact decide_eq_decide.mpr (by omega)
      have d2 : decide (((us.length : Nat) : Int) ≤ (30 : Int)) = decide (rows.length ≤ 30) := by rw [hl]; exact decide_eq_decide.mpr (by omega)
      refine ⟨_, rfl, p2, us, rfl, .inr (.of e2'), _, _, rfl, rfl, _, rfl, iteB (fun e4 => ?_) (fun e4 => ?_)⟩
      · rw [d1] at e4
        refine ⟨_, _, rfl, rfl, ?_⟩
        have q' := q H2 s12
        rw [framB, e2, e4, Bool.true_and, Bool.true_and, ← d2] at q'
        exact q'
      · rw [d1] at e4
        have q' := q H2 s12
        rw [framB, e2, e4, Bool.true_and, Bool.false_and] at q'
        exact q'
theorem ok_is_machine (Z : Zs mg) (c_is_framed : Cal P w K mg base CX0 k "is_framed" ["thing"] (spTh framB)) (c_is_row : Cal P w K mg base CX0 k "is_row" ["thing", "size", "states"] (spTh2 rowB)) (d : Def K mg "is_machine" s_is_machine ["thing"]) : Cal P w K mg base CX0 (k + 1) "is_machine" ["thing"] (spTh machB) := by
  refine d.ok sc_is_machine (fun vs H Q E h => ?_) (fun f cdv A outer s H vs Q E hr h => ?_)
  · obtain ⟨_, _, _, rfl, _⟩ := h; rfl
  obtain ⟨Zn, v, d, rfl, h, sd, q⟩ := h
  refine ⟨_, (pss_cons (ps_if (pt_not (pt_val (pe_cal c_is_framed hr (by rfl) (pa_cons (pv 0) pa_nil)))) (pss_one (ps_ret pe_bl)) pss_nil)
      (pss_cons (ps_asg (pv 0) (pg_tup (by rfl) (pgs_cons (pg_name (i := 1) sc_is_machine.nd rfl (Or.inr rfl)) (pgs_cons (pg_name (i := 2) sc_is_machine.nd rfl (Or.inr rfl)) pgs_nil))))
      (pss_one (ps_ret (pe_callB (id := "all") (cr_all rfl) (by rfl) Z.all (by decide +kernel) (pa_cons (pe_lc (own := [("row", 3)]) (g := gName 3) (tt := tYes) rfl sc_is_machine.nd (pi_tup (pv 2)) (blkOk_by (N := ["thing", "size", "rows", "row"]) (sc := defScope s_is_machine) (by decide +kernel)) (fun _ _ _ _ _ => (pg_name (i := 3) sc_is_machine.nd rfl (Or.inl rfl))) (fun _ _ _ _ _ => pts_nil) (fun _ _ _ _ _ => (pe_cal c_is_row hr (by rfl) (pa_cons (pv 3) (pa_cons (pv 1) (pa_cons (pe_callB (id := "len") (r := rLenS K) call_len_seq (by rfl) Z.len (by decide +kernel) (pa_cons (pv 2) pa_nil)) pa_nil)))))) pa_nil)))))), ?_⟩
  refine ⟨v, rfl, Zn, v, d, rfl, h, sd, fun H1 s1 => ⟨_, rfl, iteB (fun e => ?_) (fun e => ?_)⟩⟩
  · have q' := q H1 s1
    rw [machB_fram (not_true e)] at q'
    exact q'
  have e0 := not_false' e
  obtain ⟨z, rows, rfl, z1, z8, n1, n30⟩ := framB_is e0
  obtain ⟨p, u, w', rfl, ep, ha, hb⟩ := (h.same s1).pair
  obtain ⟨sa, sb⟩ := short_pair sd
  cases ha
  obtain ⟨p2, us, rfl, _, e2', hs⟩ := hb
  obtain ⟨l1, l2⟩ := short_tup sb
  have hl : ((us.length : Nat) : Int) = ((rows.length : Nat) : Int) := by rw [hs.len]
  refine ⟨_, rfl, p, _, rfl, .of ep, rfl, _, _, rfl, _, _, rfl, rfl, ?_⟩
  refine ⟨_, rfl, p2, rfl, ⟨_, .of e2'⟩, lc_bl (f := rowB z (rows.length : Int)) e2' hs l1 (fun _ => rfl) (fun x dx H4 md s4 hx R hR => ?_) (fun D H4 s4 hD eD => ⟨D, _, rfl, .of eD, ?_⟩)⟩
  · refine ⟨x, rfl, _, rfl, _, rfl, p2, us, rfl, .inr (.of (s4 _ _ e2')), Zn, x, dx, z, _, rfl, hx, shortL_mem l2 md, fun H5 s5 => ?_⟩
    rw [hl]
    exact hR H5 s5
  · have q' := q H4 (s1.trans s4)
    rw [machB_rows e0, show rows.all (rowB (num (.int z)) (rows.length : Int)) = ((rows.map (rowB z (rows.length : Int))).all id) by rw [List.all_map]; rfl] at q'
    exact q'
end
end KL
end
section
namespace KL
open PySem PySem.Spec PyProof.Rows L2
/-! ### the well: a list of the script's cells, and three numbers -/
def WellAt (W c : Addr) (H : Hp) : Prop := ∃ (ns : List Int) (n v g : Int), H W = some (.lst [.ref c, .int n, .int v, .int g]) ∧ H c = some (.lst (ns.map V.int)) ∧ ns.length ≤ 63 ∧ (0 : Int) ≤ n
abbrev sc_law_mixedN : List Str := ["_law_number"]
abbrev s_law_mixed : Stmt := topS 26
theorem sc_law_mixed : FnScope ["_law_number"] ["_law_number"] (defScope s_law_mixed) := ⟨rfl, rfl, rfl, by decide +kernel, rfl, by decide +kernel, by decide +kernel⟩
abbrev sc_law_wellN : List Str := ["_law_script", "_law_cell"]
abbrev s_law_well : Stmt := topS 27
theorem sc_law_well : FnScope ["_law_script", "_law_cell"] ["_law_script"] (defScope s_law_well) := ⟨rfl, rfl, rfl, by decide +kernel, rfl, by decide +kernel, by decide +kernel⟩
abbrev sc_law_filledN : List Str := ["_law_well_here", "_law_cell"]
abbrev s_law_filled : Stmt := topS 28
theorem sc_law_filled : FnScope ["_law_well_here", "_law_cell"] ["_law_well_here"] (defScope s_law_filled) := ⟨rfl, rfl, rfl, by decide +kernel, rfl, by decide +kernel, by decide +kernel⟩
abbrev sc_law_drawN : List Str := ["_law_well_here", "_law_many", "_law_told"]
abbrev s_law_draw : Stmt := topS 29
theorem sc_law_draw : FnScope ["_law_well_here", "_law_many", "_law_told"] ["_law_well_here", "_law_many"] (defScope s_law_draw) := ⟨rfl, rfl, rfl, by decide +kernel, rfl, by decide +kernel, by decide +kernel⟩
def spMixed : Sp := fun vs H Q _ => ∃ n, vs = [.int n] ∧ ∀ r, Q (.int r) H
def spFilled : Sp := fun vs H Q _ => ∃ W c, vs = [.ref W] ∧ WellAt W c H ∧ ∀ r H', SB (At1 W) H H' → WellAt W c H' → Q (.int r) H'
def spDraw : Sp := fun vs H Q _ => ∃ W c m, vs = [.ref W, .int m] ∧ WellAt W c H ∧ 0 < m ∧ m < 1073741824 ∧ ∀ r H', 0 ≤ r → r < m → SB (At1 W) H H' → WellAt W c H' → Q (.int r) H'
section
variable {P : Program} {w : World} {K : PySem.W.Frag} {mg : Str → Option Value} {base : Heap} {k : Nat}
theorem ok_law_mixed (Z : Zs mg) (d : Def K mg "_law_mixed" s_law_mixed ["_law_number"]) : Cal P w K mg base CX0 (k + 1) "_law_mixed" ["_law_number"] spMixed := by
  refine d.ok sc_law_mixed (fun vs H Q E h => ?_) (fun f cdv A outer s H vs Q E hr h => ?_)
  · obtain ⟨_, rfl, _⟩ := h; rfl
  obtain ⟨n, rfl, q⟩ := h
  refine ⟨_, (pss_cons (ps_set (i := 0) sc_law_mixed.nd rfl (Or.inl rfl) (pe_op op_mod (pe_callTy (T := "int") call_int1 (by rfl) Z.int (by decide +kernel) (pa_cons (pe_op op_add (pe_op op_mul (pv 0) pe_int) pe_int) pa_nil)) pe_int))
      (pss_cons (ps_set (i := 0) sc_law_mixed.nd rfl (Or.inl rfl) (pe_op op_mod (pe_callTy (T := "int") call_int1 (by rfl) Z.int (by decide +kernel) (pa_cons (pe_op op_add (pe_op op_mul (pv 0) (pe_op op_add (pe_op op_fdiv (pv 0) pe_int) pe_int)) pe_int) pa_nil)) pe_int))
      (pss_one (ps_ret (pe_op op_add (pe_op op_mul (pv 0) pe_int) (pe_op op_mod (pe_callTy (T := "int") call_int1 (by rfl) Z.int (by decide +kernel) (pa_cons (pe_op op_add (pe_op op_mul (pv 0) (pe_op op_add (pe_op op_fdiv (pv 0) pe_int) pe_int)) pe_int) pa_nil)) pe_int)))))), ?_⟩
  refine ⟨_, rfl, _, _, rfl, rfl, .inr ⟨by decide, by decide⟩, _, _, rfl, rfl, .inl ⟨_, rfl, _, _, rfl, rfl, (by show (0 : Int) < _; decide), ?_⟩⟩
  generalize e1 : (n * 48271 + 11) % 2147483647 = n1
  have b0 : 0 ≤ n1 := by rw [← e1]; exact Int.emod_nonneg _ (by decide)
  have b1 : n1 < 2147483647 := by rw [← e1]; exact Int.emod_lt_of_pos _ (by decide)
  refine ⟨_, rfl, _, rfl, _, _, rfl, rfl, ⟨by decide, by decide⟩, _, _, rfl, rfl, _, _, rfl, rfl, .inl ⟨by omega, by omega⟩, _, _, rfl, rfl, .inl ⟨_, rfl, _, _, rfl, rfl, (by show (0 : Int) < _; decide), ?_⟩⟩
  generalize e2 : (n1 * (n1 / 1009 + 69621) + 7919) % 2147483647 = n2
  have c0 : 0 ≤ n2 := by rw [← e2]; exact Int.emod_nonneg _ (by decide)
  have c1 : n2 < 2147483647 := by rw [← e2]; exact Int.emod_lt_of_pos _ (by decide)
  refine ⟨_, rfl, _, _, rfl, rfl, .inr ⟨by decide, by decide⟩, _, rfl, _, rfl, _, _, rfl, rfl, ⟨by decide, by decide⟩, _, _, rfl, rfl, _, _, rfl, rfl, .inl ⟨by omega, by omega⟩, _, _, rfl, rfl, .inl ⟨_, rfl, _, _, rfl, rfl, (by show (0 : Int) < _; decide), _, _, rfl, rfl, q _⟩⟩
theorem cell_at {ns : List Int} {n : Int} (h0 : 0 ≤ n) (h : n + 1 ≤ ((ns.map V.int).length : Nat)) : ∃ x : Int, atI (ns.map V.int) (n + 1 - 1) = some (.int x) := by
  rw [List.length_map] at h
  have hk : n.toNat < ns.length := by omega
  have e : n + 1 - 1 = ((n.toNat : Nat) : Int) := by omega
  refine ⟨ns[n.toNat], ?_⟩
  rw [e]
  exact atI_nat (by rw [List.getElem?_map, List.getElem?_eq_getElem hk]; rfl)
theorem cells_ne {W c : Addr} {H : Hp} {a : Addr} {xs : List V} {ns : List Int} (hW : H W = some (.lst (.ref a :: xs))) (hc : H c = some (.lst (ns.map V.int))) : c ≠ W := fun e => by
  rw [e, hW] at hc
  have e2 := Option.some.inj hc
  injection e2 with e3
  cases ns with
  | nil => cases e3
  | cons a b => injection e3 with e4 _; cases e4
theorem ok_law_filled (Z : Zs mg) (c_law_mixed : Cal P w K mg base CX0 k "_law_mixed" ["_law_number"] spMixed) (d : Def K mg "_law_filled" s_law_filled ["_law_well_here"]) : Cal P w K mg base CX0 (k + 1) "_law_filled" ["_law_well_here"] spFilled := by
  refine d.ok sc_law_filled (fun vs H Q E h => ?_) (fun f cdv A outer s H vs Q E hr h => ?_)
  · obtain ⟨_, _, rfl, _⟩ := h; rfl
  obtain ⟨W, c, rfl, ⟨ns, n, v, g, hW, hc, h63, hn⟩, q⟩ := h
  refine ⟨_, (pss_cons (ps_asg (pe_op op_add (pe_ix ix_list (pv 0) pe_int (fun _ _ => rfl)) pe_int) (pg_sub (pv 0) pe_int set_list))
      (pss_cons (ps_if (pt_cmpR op_le (pe_ix ix_list (pv 0) pe_int (fun _ _ => rfl)) (pe_callB (id := "len") call_len_seq (by rfl) Z.len (by decide +kernel) (pa_cons (pe_ix ix_list (pv 0) pe_int (fun _ _ => rfl)) pa_nil)) (nomark _)) (pss_cons (ps_set (i := 1) sc_law_filled.nd rfl (Or.inl rfl) (pe_ix ix_list (pe_ix ix_list (pv 0) pe_int (fun _ _ => rfl)) (pe_op op_sub (pe_ix ix_list (pv 0) pe_int (fun _ _ => rfl)) pe_int) (fun _ _ => rfl)))
      (pss_cons (ps_asg (pe_op op_mod (pe_callTy (T := "int") call_int1 (by rfl) Z.int (by decide +kernel) (pa_cons (pe_op op_add (pe_op op_add (pe_op op_mul (pe_ix ix_list (pv 0) pe_int (fun _ _ => rfl)) pe_int) (pv 1)) pe_int) pa_nil)) pe_int) (pg_sub (pv 0) pe_int set_list))
      (pss_cons (ps_if (pt_cmpR op_ge (pv 1) (pe_op op_pow pe_int pe_int) (nomark _)) (pss_one (ps_ret (pv 1))) pss_nil)
      (pss_one (ps_ret (pe_cal c_law_mixed hr (by rfl) (pa_cons (pe_op op_add (pv 1) (pe_op op_mul pe_int (pe_ix ix_list (pv 0) pe_int (fun _ _ => rfl)))) pa_nil))))))) pss_nil)
      (pss_one (ps_ret (pe_cal c_law_mixed hr (by rfl) (pa_cons (pe_op op_add (pe_ix ix_list (pv 0) pe_int (fun _ _ => rfl)) (pe_op op_mul pe_int (pe_ix ix_list (pv 0) pe_int (fun _ _ => rfl)))) pa_nil)))))), ?_⟩
  have ncW := cells_ne hW hc
  refine ⟨_, rfl, W, _, 1, .int n, rfl, rfl, .of hW, rfl, _, _, rfl, rfl, _, rfl, W, _, 1, 1, rfl, rfl, hW, rfl, ?_⟩
  generalize eH : upd H W (.lst ([V.ref c, .int n, .int v, .int g].set 1 (.int (n + 1)))) = H1
  have w1 : H1 W = some (.lst [.ref c, .int (n + 1), .int v, .int g]) := by rw [← eH, upd_same]; rfl
  have c1 : H1 c = some (.lst (ns.map V.int)) := by rw [← eH, upd_ne ncW]; exact hc
  have s1 : SB (At1 W) H H1 := by rw [← eH]; exact .selfW _
  refine ⟨_, rfl, W, _, 1, .int (n + 1), rfl, rfl, .of w1, rfl, _, rfl, W, _, 0, .ref c, rfl, rfl, .of w1, rfl, c, _, rfl, .inl (.of c1), _, _, rfl, rfl, _, rfl, iteB (fun e1 => ?_) (fun e1 => ?_)⟩
  · obtain ⟨x, ex⟩ := cell_at hn (of_decide_eq_true e1)
    refine ⟨_, rfl, W, _, 0, .ref c, rfl, rfl, .of w1, rfl, _, rfl, W, _, 1, .int (n + 1), rfl, rfl, .of w1, rfl, _, _, rfl, rfl, c, _, _, .int x, rfl, rfl, .of c1, ex, ?_⟩
    refine ⟨_, rfl, W, _, 3, .int g, rfl, rfl, .of w1, rfl, _, _, rfl, rfl, .inr ⟨by decide, by decide⟩, _, rfl, _, _, rfl, rfl, _, _, rfl, rfl, .inl ⟨_, rfl, _, _, rfl, rfl, (by show (0 : Int) < _; decide), _, rfl, W, _, 3, 3, rfl, rfl, w1, rfl, ?_⟩⟩
    refine ⟨_, rfl, _, _, rfl, rfl, ⟨by decide, by decide, by decide⟩, _, _, rfl, rfl, _, rfl, iteB (fun e2 => ?_) (fun e2 => ?_)⟩
    · exact ⟨_, rfl, q x _ (s1.trans (.selfW _)) ⟨ns, n + 1, v, _, upd_same, (by rw [upd_ne ncW]; exact c1), h63, by omega⟩⟩
    · exact ⟨_, rfl, _, rfl, W, _, 1, .int (n + 1), rfl, rfl, .of upd_same, rfl, _, _, rfl, rfl, .inl ⟨by decide, by decide⟩, _, _, rfl, rfl, _, rfl, fun r => q r _ (s1.trans (.selfW _)) ⟨ns, n + 1, v, _, upd_same, (by rw [upd_ne ncW]; exact c1), h63, by omega⟩⟩
  · exact ⟨_, rfl, W, _, 3, .int g, rfl, rfl, .of w1, rfl, _, rfl, W, _, 1, .int (n + 1), rfl, rfl, .of w1, rfl, _, _, rfl, rfl, .inl ⟨by decide, by decide⟩, _, _, rfl, rfl, _, rfl, fun r => q r H1 s1 ⟨ns, n + 1, v, g, w1, c1, h63, by omega⟩⟩
theorem ok_law_draw (Z : Zs mg) (c_law_filled : Cal P w K mg base CX0 k "_law_filled" ["_law_well_here"] spFilled) (d : Def K mg "_law_draw" s_law_draw ["_law_well_here", "_law_many"]) : Cal P w K mg base CX0 (k + 1) "_law_draw" ["_law_well_here", "_law_many"] spDraw := by
  refine d.ok sc_law_draw (fun vs H Q E h => ?_) (fun f cdv A outer s H vs Q E hr h => ?_)
  · obtain ⟨_, _, _, rfl, _⟩ := h; rfl
  obtain ⟨W, c, m, rfl, hw, m0, m1, q⟩ := h
  refine ⟨_, (pss_cons (ps_if (pt_cmpR op_eq (pe_ix ix_list (pv 0) pe_int (fun _ _ => rfl)) pe_int (nomark _)) (pss_one (ps_asg (pe_cal c_law_filled hr (by rfl) (pa_cons (pv 0) pa_nil)) (pg_sub (pv 0) pe_int set_list))) pss_nil)
      (pss_cons (ps_set (i := 2) sc_law_draw.nd rfl (Or.inl rfl) (pe_op op_mod (pe_callTy (T := "int") call_int1 (by rfl) Z.int (by decide +kernel) (pa_cons (pe_ix ix_list (pv 0) pe_int (fun _ _ => rfl)) pa_nil)) (pv 1)))
      (pss_cons (ps_asg (pe_op op_fdiv (pe_callTy (T := "int") call_int1 (by rfl) Z.int (by decide +kernel) (pa_cons (pe_ix ix_list (pv 0) pe_int (fun _ _ => rfl)) pa_nil)) (pv 1)) (pg_sub (pv 0) pe_int set_list))
      (pss_one (ps_ret (pv 2)))))), ?_⟩
  refine rd_ifx (fun H1 => SB (At1 W) H H1 ∧ WellAt W c H1) (fun N hN => ?_) (fun H1 hh => ?_)
  · obtain ⟨ns, n, v, g, hW, hc, h63, hn⟩ := id hw
    refine ⟨_, rfl, W, _, 2, .int v, rfl, rfl, .of hW, rfl, rfl, _, rfl, iteB (fun e1 => ?_) (fun e1 => hN H ⟨.rfl', hw⟩)⟩
    refine ⟨_, rfl, W, c, rfl, hw, fun r H1 s1 hw1 => ?_⟩
    obtain ⟨ns, n, v, g, hW, hc, h63, hn⟩ := hw1
    exact ⟨_, rfl, W, _, 2, 2, rfl, rfl, hW, rfl, hN _ ⟨s1.trans (.selfW _), ns, n, r, g, upd_same, (by rw [upd_ne (cells_ne hW hc)]; exact hc), h63, hn⟩⟩
  obtain ⟨s1, ns, n, v, g, hW, hc, h63, hn⟩ := hh
  refine ⟨_, rfl, W, _, 2, .int v, rfl, rfl, .of hW, rfl, .inl ⟨_, rfl, _, rfl, _, _, rfl, rfl, m0, ?_⟩⟩
  refine ⟨_, rfl, W, _, 2, .int v, rfl, rfl, .of hW, rfl, .inl ⟨_, rfl, _, rfl, _, _, rfl, rfl, ⟨m0, m1⟩, _, rfl, W, _, 2, 2, rfl, rfl, hW, rfl, ?_⟩⟩
  exact ⟨_, rfl, q _ _ (Int.emod_nonneg _ (by omega)) (Int.emod_lt_of_pos _ m0) (s1.trans (.selfW _)) ⟨ns, n, v / m, g, upd_same, (by rw [upd_ne (cells_ne hW hc)]; exact hc), h63, hn⟩⟩
def spWell (K : PySem.W.Frag) : Sp := fun vs H Q _ => ∃ a ns, vs = [.ref a] ∧ SqL K H a (List.map V.int ns) ∧ ns.length ≤ 63 ∧ ∀ W c H', Same H H' → H W = none → WellAt W c H' → Q (.ref W) H'
theorem cut_ints (ns : List Int) (lo hi : Option Int) : ∃ ms : List Int, cutV (ns.map V.int) lo hi = ms.map V.int ∧ ms.length ≤ ns.length := by
  unfold cutV
  refine ⟨(ns.drop (HT.sIx (ns.map V.int).length 0 lo)).take (HT.sIx (ns.map V.int).length (ns.map V.int).length hi - HT.sIx (ns.map V.int).length 0 lo), ?_, ?_⟩
  · rw [List.map_take, List.map_drop]
  · rw [List.length_take, List.length_drop]; omega
theorem ok_law_well (Z : Zs mg) (d : Def K mg "_law_well" s_law_well ["_law_script"]) : Cal P w K mg base CX0 (k + 1) "_law_well" ["_law_script"] (spWell K) := by
  refine d.ok sc_law_well (fun vs H Q E h => ?_) (fun f cdv A outer s H vs Q E hr h => ?_)
  · obtain ⟨_, _, rfl, _⟩ := h; rfl
  obtain ⟨a, ns, rfl, hS, h63, q⟩ := h
  refine ⟨_, (pss_one (ps_ret (pe_lst (pa_cons (pe_lc (own := [("_law_cell", 1)]) (g := gName 1) (tt := tYes) rfl sc_law_well.nd (pi_list (pe_slice sl_list (pv 0) po_none (po_some pe_int))) (blkOk_by (N := ["_law_script", "_law_cell"]) (sc := defScope s_law_well) (by decide +kernel)) (fun _ _ _ _ _ => (pg_name (i := 1) sc_law_well.nd rfl (Or.inl rfl))) (fun _ _ _ _ _ => pts_nil) (fun _ _ _ _ _ => (pe_callTy (T := "int") call_int1 (by rfl) Z.int (by decide +kernel) (pa_cons (pv 1) pa_nil)))) (pa_cons pe_int (pa_cons pe_int (pa_cons pe_int pa_nil))))))), ?_⟩
  obtain ⟨ms, em, lm⟩ := cut_ints ns none (some 63)
  refine ⟨_, rfl, 63, rfl, a, _, rfl, hS, fun p hp => ?_⟩
  have e1 : (upd H p (.lst (cutV (ns.map V.int) none (some 63)))) p = some (.lst (ms.map V.int)) := by rw [upd_same, em]
  have s1 : Same H (upd H p (.lst (cutV (ns.map V.int) none (some 63)))) := same_new hp _
  refine ⟨p, rfl, ⟨_, .of e1⟩, fun D hD => lc_list (xs := ms.map V.int) (fun j H' => Same (upd H p (.lst (cutV (ns.map V.int) none (some 63)))) H' ∧ H' D = some (.lst ((ms.take j).map V.int))) ⟨same_new hD _, upd_same⟩ (fun j H' _ p' => .of (p'.1 _ _ e1)) (fun j x H' ex p' => ?_) (fun H' p' => ?_)⟩
  · rw [List.getElem?_map] at ex
    obtain ⟨i, ei, rfl⟩ := Option.map_eq_some_iff.mp ex
    refine ⟨rfl, iteT (B := False) ⟨_, rfl, .inl ⟨i, rfl, _, p'.2, ?_, Same.upd_new p'.1 hD _, ?_⟩⟩⟩
    · rw [List.length_map, List.length_take, sizeLine_eq]; omega
    · rw [upd_same, List.take_add_one, ei]; simp
  · have e2 := p'.2
    rw [show (List.map V.int ms).length = ms.length from List.length_map _, List.take_length] at e2
    refine ⟨(by show 4 ≤ sizeLine; decide), fun W hW => q W D _ ((s1.trans p'.1).trans (same_new hW _)) (Same.free s1 (Same.free p'.1 hW)) ⟨ms, 0, 0, 1, upd_same, ?_, by omega, by decide⟩⟩
    rw [upd_ne (ne_of_none e2 hW)]
    exact e2
end
end KL
end
section
namespace KL
open PySem PySem.Spec PyProof.Rows L2
/-! ### how great a thing is -/
mutual
def bk : Th → Nat
  | .str x => x.cps.size
  | .lst xs => bkL xs
  | .tup xs => bkL xs
  | .dic xs => bkL xs + 5
  | _ => 0
def bkL : List Th → Nat
  | [] => 0
  | x :: xs => bk x + 1 + bkL xs
end
mutual
def lf (M : Nat) : Th → Bool
  | .int i => decide (i.natAbs ≤ M)
  | .str x => x.cps.toList.all fun c => decide (c < 128)
  | .lst xs => lfL M xs
  | .tup xs => lfL M xs
  | .dic xs => lfL M xs
  | _ => true
def lfL (M : Nat) : List Th → Bool
  | [] => true
  | x :: xs => lf M x && lfL M xs
end
mutual
def dp : Th → Nat
  | .lst xs => dpL xs + 1
  | .tup xs => dpL xs + 1
  | .dic xs => dpL xs + 2
  | _ => 0
def dpL : List Th → Nat
  | [] => 0
  | x :: xs => max (dp x) (dpL xs)
end
theorem bkL_append : ∀ xs ys : List Th, bkL (xs ++ ys) = bkL xs + bkL ys
  | [], ys => by simp [bkL]
  | x :: xs, ys => by rw [List.cons_append, bkL, bkL, bkL_append xs ys]; omega
theorem lfL_append (M : Nat) : ∀ xs ys : List Th, lfL M (xs ++ ys) = (lfL M xs && lfL M ys)
  | [], ys => by simp [lfL]
  | x :: xs, ys => by rw [List.cons_append, lfL, lfL, lfL_append M xs ys, Bool.and_assoc]
theorem dpL_append : ∀ xs ys : List Th, dpL (xs ++ ys) = max (dpL xs) (dpL ys)
  | [], ys => by simp [dpL]
  | x :: xs, ys => by rw [List.cons_append, dpL, dpL, dpL_append xs ys]; omega
theorem len_bkL : ∀ xs : List Th, xs.length ≤ bkL xs
  | [] => Nat.zero_le _
  | x :: xs => by rw [List.length_cons, bkL]; have := len_bkL xs; omega
/-- a good thing: bounded in all -/
structure Gd (B M D : Nat) (t : Th) : Prop where
  b : bk t ≤ B
  m : lf M t = true
  d : dp t ≤ D
structure GdL (B M D : Nat) (ts : List Th) : Prop where
  b : bkL ts ≤ B
  m : lfL M ts = true
  d : dpL ts ≤ D
mutual
theorem lf_mono {M N : Nat} (h : M ≤ N) : ∀ t : Th, lf M t = true → lf N t = true
  | .non, _ => rfl
  | .bl _, _ => rfl
  | .int i, e => by rw [lf, decide_eq_true_eq] at e ⊢; omega
  | .str x, e => e
  | .lst xs, e => lfL_mono h xs e
  | .tup xs, e => lfL_mono h xs e
  | .dic xs, e => lfL_mono h xs e
theorem lfL_mono {M N : Nat} (h : M ≤ N) : ∀ ts : List Th, lfL M ts = true → lfL N ts = true
  | [], _ => rfl
  | x :: xs, e => by
    rw [lfL, Bool.and_eq_true] at e ⊢
    exact ⟨lf_mono h x e.1, lfL_mono h xs e.2⟩
end
theorem Gd.mono {B M D B' M' D' : Nat} {t : Th} (g : Gd B M D t) (hb : B ≤ B') (hm : M ≤ M') (hd : D ≤ D') : Gd B' M' D' t := ⟨Nat.le_trans g.b hb, lf_mono hm t g.m, Nat.le_trans g.d hd⟩
theorem GdL.mono {B M D B' M' D' : Nat} {t : List Th} (g : GdL B M D t) (hb : B ≤ B') (hm : M ≤ M') (hd : D ≤ D') : GdL B' M' D' t := ⟨Nat.le_trans g.b hb, lfL_mono hm t g.m, Nat.le_trans g.d hd⟩
theorem Gd.tup {B M D : Nat} {ts : List Th} (g : GdL B M D ts) : Gd B M (D + 1) (.tup ts) := ⟨g.b, g.m, Nat.succ_le_succ g.d⟩
theorem Gd.lst {B M D : Nat} {ts : List Th} (g : GdL B M D ts) : Gd B M (D + 1) (.lst ts) := ⟨g.b, g.m, Nat.succ_le_succ g.d⟩
theorem Gd.dic {B M D : Nat} {ts : List Th} (g : GdL B M D ts) : Gd (B + 5) M (D + 2) (.dic ts) := ⟨Nat.add_le_add_right g.b 5, g.m, Nat.add_le_add_right g.d 2⟩
theorem GdL.nil {M D : Nat} : GdL 0 M D [] := ⟨Nat.le_refl _, rfl, Nat.zero_le _⟩
theorem GdL.cons {B C M D : Nat} {t : Th} {ts : List Th} (g : Gd B M D t) (h : GdL C M D ts) : GdL (B + 1 + C) M D (t :: ts) :=
  ⟨by rw [bkL]; have := g.b; have := h.b; omega, by rw [lfL, g.m, h.m]; rfl, by rw [dpL]; have := g.d; have := h.d; omega⟩
theorem GdL.append {B C M D : Nat} {ts us : List Th} (g : GdL B M D ts) (h : GdL C M D us) : GdL (B + C) M D (ts ++ us) :=
  ⟨by rw [bkL_append]; have := g.b; have := h.b; omega, by rw [lfL_append, g.m, h.m]; rfl, by rw [dpL_append]; have := g.d; have := h.d; omega⟩
theorem GdL.all {B M D : Nat} : ∀ {ts : List Th} {n : Nat}, (∀ t ∈ ts, Gd B M D t) → ts.length ≤ n → GdL (n * (B + 1)) M D ts
  | [], n, _, _ => GdL.nil.mono (Nat.zero_le _) (Nat.le_refl _) (Nat.le_refl _)
  | t :: ts, 0, _, h => by simp at h
  | t :: ts, n + 1, g, h => (GdL.cons (g t List.mem_cons_self) (GdL.all (n := n) (fun u hu => g u (List.mem_cons_of_mem _ hu)) (by simpa using h))).mono (by rw [Nat.succ_mul]; omega) (Nat.le_refl _) (Nat.le_refl _)
theorem Gd.int {M : Nat} {i : Int} (h : i.natAbs ≤ M) : Gd 0 M 0 (.int i) := ⟨Nat.le_refl _, by rw [lf]; exact decide_eq_true h, Nat.le_refl _⟩
theorem Gd.non {M : Nat} : Gd 0 M 0 .non := ⟨Nat.le_refl _, rfl, Nat.le_refl _⟩
theorem Gd.bl {M : Nat} {b : Bool} : Gd 0 M 0 (.bl b) := ⟨Nat.le_refl _, rfl, Nat.le_refl _⟩
theorem Gd.str {M : Nat} {x : Str} {B : Nat} (h : x.cps.size ≤ B) (a : (x.cps.toList.all fun c => decide (c < 128)) = true) : Gd B M 0 (.str x) := ⟨h, a, Nat.le_refl _⟩
mutual
theorem short_of : ∀ t : Th, bk t ≤ 1000000 → shortT t = true
  | .non, _ => rfl
  | .bl _, _ => rfl
  | .int _, _ => rfl
  | .str x, h => by rw [shortT]; exact decide_eq_true h
  | .lst _, _ => rfl
  | .dic _, _ => rfl
  | .tup xs, h => by
    have h2 : bkL xs ≤ 1000000 := h
    have h3 := len_bkL xs
    rw [shortT, short_ofL xs h2, Bool.and_true]
    exact decide_eq_true (by omega)
theorem short_ofL : ∀ ts : List Th, bkL ts ≤ 1000000 → shortL ts = true
  | [], _ => rfl
  | x :: xs, h => by
    rw [bkL] at h
    rw [shortL, short_of x (by omega), short_ofL xs (by omega)]
    rfl
end
theorem Gd.short {B M D : Nat} {t : Th} (g : Gd B M D t) (h : B ≤ 1000000) : shortT t = true := short_of t (Nat.le_trans g.b h)
/-! nodes -/
mutual
def nod : Th → Nat
  | .tup xs => nodL xs + 1
  | _ => 1
def nodL : List Th → Nat
  | [] => 0
  | x :: xs => nod x + nodL xs
end
mutual
theorem nod_le : ∀ t : Th, nod t ≤ bk t + 1
  | .tup xs => by rw [nod, bk]; have := nodL_le xs; omega
  | .non => Nat.le_add_left 1 _
  | .bl _ => Nat.le_add_left 1 _
  | .int _ => Nat.le_add_left 1 _
  | .str _ => Nat.le_add_left 1 _
  | .lst _ => Nat.le_add_left 1 _
  | .dic _ => Nat.le_add_left 1 _
theorem nodL_le : ∀ ts : List Th, nodL ts ≤ bkL ts
  | [] => Nat.le_refl _
  | x :: xs => by rw [nodL, bkL]; have := nod_le x; have := nodL_le xs; omega
end
theorem nod_pos : ∀ t : Th, 0 < nod t
  | .tup xs => Nat.succ_pos _
  | .non => Nat.one_pos
  | .bl _ => Nat.one_pos
  | .int _ => Nat.one_pos
  | .str _ => Nat.one_pos
  | .lst _ => Nat.one_pos
  | .dic _ => Nat.one_pos
end KL
end
section
set_option maxHeartbeats 4000000
namespace KL
open PySem PySem.Spec PyProof.Rows L2
/-! ### t * 2 of any tuple -/
theorem mul_empty (l : Addr) (n : Nat) (dd : Option Addr) (sl : Array (Option Value)) (u : Tok) :
    Meets (Builtin.«tuple.__mul__» ⟨[.ref l, .int 2 u], []⟩) (fun _ R s => s.heap.get? l = some { cls := .type "tuple", dict := dd, data := .seq #[] n, slots := sl } ∧ R (.ok (.ret (Value.ref l))) s) :=
  .of_wp fun prog w A R s h => by
    obtain ⟨hp, g, d, tk, os⟩ := s
    obtain ⟨hl, h⟩ := h
    have f1 := AutoSeq1.idx_int
    (wp_walk using wpAny_loadPart' hl); skip
    repeat (first
      | (refine wpAny_ite_false (by decide) ?_; wp_walk using wpAny_loadPart' hl)
      | (refine wpAny_ite_true (by decide) ?_; wp_walk using wpAny_loadPart' hl)); skip
    exact ⟨_, rfl, h⟩
def rRep2 (K : PySem.W.Frag) : R2 := fun x y H Q => ∃ l xs, x = .ref l ∧ y = .int 2 ∧ SqT K H l xs ∧ xs.length ≤ 1000000 ∧ (xs = [] → Q (.ref l) H) ∧ (xs ≠ [] → ∀ p, H p = none → Q (.ref p) (upd H p (.tup (xs ++ xs))))
section
variable {X : Cx}
theorem op_rep2 : OpR X (binaryOp .Mult) (rRep2 X.K) := by
  intro pins s σ H x y v u Q I rx ry h
  obtain ⟨l, xs, rfl, rfl, hT, hz, q0, q1⟩ := h
  cases rx
  obtain ⟨t, rfl⟩ := ry
  obtain ⟨its, r, ⟨⟨cls, dd, data, sl⟩, ho, hc, n, hd⟩, _⟩ := I.tuple hT
  simp only at hc hd
  subst hc hd
  have hle : its.length = xs.length := r.length.symm
  by_cases hx : xs = []
  · subst hx
    cases r
    refine wpAny_binaryOp_repeat_ref (T := "tuple") (U := "int") (by decide) ⟨_, ho, rfl⟩ (fun s' => typeIs_int s' 2 t) noFill_tuple_mul F.fills_int_mul F.slot_int_rmul repeat_tuple F.slot_int_index.lookup ?_
    refine call_meets F.slot_int_rmul (typeIs_int s 2 t) F.entry_int_rmul (F.args_int_rmul_2 _ _) (int_rmul_tuple 2 t l #[] n dd sl) ⟨ho, rfl, ⟨_, ho, rfl⟩, ?_⟩
    exact call_meets F.slot_tuple_mul ⟨_, ho, rfl⟩ F.entry_tuple_mul (F.args_tuple_mul_2 _ _) (mul_empty l n dd sl t) ⟨ho, ⟨.ref l, H, I, rfl, q0 rfl⟩⟩
  · have hi : its.toArray.isEmpty = false := by
      cases its with
      | nil => exact absurd (List.eq_nil_of_length_eq_zero hle.symm) hx
      | cons a b => rfl
    have es : its.toArray.size = xs.length := by rw [List.size_toArray, hle]
    have ef : (List.foldl (fun x1 x2 => x1 ++ x2) #[] (List.replicate (2 : Int).toNat its.toArray)) = (its ++ its).toArray := by
      rw [size_rep]
      show (its ++ (its ++ [])).toArray = (its ++ its).toArray
      rw [List.append_nil]
    have el : (its ++ its).length ≤ sizeLine := by rw [List.length_append, hle, sizeLine_eq]; omega
    have g4 : Builtin.Tuple.tupleTooMany (((its.toArray.size : Nat) : Int) * 2) = false := by
      unfold Builtin.Tuple.tupleTooMany
      rw [es, sizeLine_eq]
      exact decide_eq_false (by omega)
    refine wpAny_binaryOp_repeat_ref (T := "tuple") (U := "int") (by decide) ⟨_, ho, rfl⟩ (fun s' => typeIs_int s' 2 t) noFill_tuple_mul F.fills_int_mul F.slot_int_rmul repeat_tuple F.slot_int_index.lookup ?_
    refine call_meets F.slot_int_rmul (typeIs_int s 2 t) F.entry_int_rmul (F.args_int_rmul_2 _ _) (int_rmul_tuple 2 t l its.toArray n dd sl) ⟨ho, rfl, ⟨_, ho, rfl⟩, ?_⟩
    refine call_meets F.slot_tuple_mul ⟨_, ho, rfl⟩ F.entry_tuple_mul (F.args_tuple_mul_2 _ _) (tuple_mulW l its.toArray n dd sl 2 t (by decide) (by rw [hi]; rfl) (by rw [hi]; rfl) (by rw [es]; omega) g4 (by rw [ef, List.size_toArray]; exact el)) ⟨ho, ?_⟩
    rw [ef]
    refine ⟨.ref s.heap.objs.size, _, I.laid (t' := s.toks) (o := .tup (xs ++ xs)) (fun b ob q => Heap.get?_push_of_some _ q) (Nat.le_refl _) ?_, rfl, q1 hx _ (I.hok.fresh (Nat.le_refl _))⟩
    exact ⟨by rw [List.length_append, sizeLine_eq]; omega, _, Vals.append r r, IsTup.new _ _⟩
end
/-! ### one of a written list -/
theorem pick {α : Type} {xs : List α} {i : Int} (p : α → Prop) (h0 : 0 ≤ i) (h1 : i < (xs.length : Int)) (h : ∀ x ∈ xs, p x) : ∃ x, atI xs i = some x ∧ p x := by
  have e : i = ((i.toNat : Nat) : Int) := by omega
  have hk : i.toNat < xs.length := by omega
  have q := atI_nat (List.getElem?_eq_getElem hk)
  rw [← e] at q
  exact ⟨xs[i.toNat], q, h _ (List.getElem_mem hk)⟩
theorem WellAt.trk {W c : Addr} {H : Hp} (h : WellAt W c H) : Trk H W := by obtain ⟨_, _, _, _, e, _⟩ := h; exact .of e
theorem WellAt.ne {W c : Addr} {H : Hp} (h : WellAt W c H) : c ≠ W := by obtain ⟨_, _, _, _, e, f, _⟩ := h; exact cells_ne e f
theorem WellAt.same {W c : Addr} {H H' : Hp} (h : WellAt W c H) (s : Same H H') : WellAt W c H' := by
  obtain ⟨ns, n, v, g, e, f, r⟩ := h; exact ⟨ns, n, v, g, s _ _ e, s _ _ f, r⟩
theorem WellAt.new {W c p : Addr} {H H0 : Hp} (h : WellAt W c H) (h0 : WellAt W c H0) (hp : H0 p = none) (o : HO) : WellAt W c (upd H p o) := by
  obtain ⟨ns, n, v, g, e, f, r⟩ := h
  obtain ⟨_, _, _, _, e0, f0, _⟩ := h0
  exact ⟨ns, n, v, g, by rw [upd_ne (ne_of_none e0 hp)]; exact e, by rw [upd_ne (ne_of_none f0 hp)]; exact f, r⟩
/-- what was tracked ahead is tracked -/
theorem Trk.well {W c : Addr} {H H' : Hp} (s : SB (At1 W) H H') (w : WellAt W c H') {a : Addr} (h : Trk H a) : Trk H' a := by
  by_cases e : a = W
  · rw [e]; exact w.trk
  · cases q : H a with
    | none => exact absurd q h
    | some o => exact .of (s a o e q)
/-- the way of a new thing to a later heap -/
theorem At.later {W c : Addr} {Z Z' : Zone} {H H' : Hp} {t : Th} {v : V} (h : At Z H t v) (s : SB (At1 W) H H') (z : Z W) (zz : ∀ a, Z' a → Z a) : At Z' H' t v :=
  (h.sb (s.mono fun b e => by rw [show b = W from e]; exact z)).less zz
/-- a list of new things made over a range -/
theorem lc_new {W c : Addr} {lo : Int} {n : Nat} {H : Hp} {G : Th → Prop} {i : Nat} {own : List Nat} {te : TE} {σ : L2.St} {Q : Addr → Hp → Prop} (hW : WellAt W c H) (hn : n ≤ 1000000) (hw : ∀ x, wipe ((wipe σ own).set i (some x)) own = wipe σ own)
    (hs : ∀ j H2, j < n → SB (At1 W) H H2 → WellAt W c H2 → ∀ R : VK, (∀ v t H3, SB (At1 W) H2 H3 → WellAt W c H3 → At (Trk H2) H3 t v → G t → R v H3) → te ((wipe σ own).set i (some (.int (lo + (j : Nat))))) H2 R)
    (hd : ∀ D H' vs ts, SB (At1 W) H H' → WellAt W c H' → H D = none → H' D = some (.lst vs) → AtAll (fun a => a = D ∨ Trk H a) H' ts vs → ts.length = n → (∀ t ∈ ts, G t) → Q D H') :
    ∀ D, H D = none → ∃ Y : Nat → Nat → Hp → Prop, (∃ m, Y 0 m (upd H D (.lst []))) ∧ ∀ i' m H, Y i' m H →
      ((Itr lo n).stop i' H ∧ Q D H) ∨ ((Itr lo n).go i' H ∧ ∃ Nx : Hp → Prop, (∀ H', Nx H' → ∃ m', m' < m ∧ Y (i' + 1) m' H') ∧ ∀ x H', (Itr lo n).yld i' H x H' → gName i x (wipe σ own) H' fun σ2 H2 => wipe σ2 own = wipe σ own ∧ tYes σ2 H2 fun b H3 =>
        if b = true then te σ2 H3 fun y H4 => ∃ acc, H4 D = some (.lst acc) ∧ acc.length < sizeLine ∧ Nx (upd H4 D (.lst (acc ++ [y]))) else Nx H3) := by
  intro D hD
  have nDW : D ≠ W := fun e => by rw [e] at hD; exact hW.trk hD
  refine lc_range (fun j H' => SB (At1 W) H H' ∧ WellAt W c H' ∧ ∃ vs ts, H' D = some (.lst vs) ∧ AtAll (fun a => a = D ∨ Trk H a) H' ts vs ∧ ts.length = j ∧ ∀ t ∈ ts, G t)
    ⟨.new hD _, hW.new hW hD _, [], [], upd_same, .nil, rfl, fun t h => nomatch h⟩ (fun j H' hj p => ?_) (fun H' p => ?_)
  · obtain ⟨s1, w1, vs, ts, e1, a1, l1, g1⟩ := p
    refine ⟨hw _, iteT (B := False) (hs j H' hj s1 w1 _ fun v t H3 s3 w3 at3 gt => ?_)⟩
    have e3 : H3 D = some (.lst vs) := s3 D _ nDW e1
    have zz : ∀ a, (a = D ∨ Trk H a) → Trk H' a := fun a h => by
      rcases h with rfl | h
      · exact .of e1
      · exact .well s1 w1 h
    refine ⟨vs, e3, by rw [a1.len, l1, sizeLine_eq]; omega, (s1.trans s3).upd_new hD _, w3.new hW hD _, vs ++ [v], ts ++ [t], upd_same, ?_, by rw [List.length_append, l1]; rfl, fun u hu => ?_⟩
    · have sD : SB (fun a => a = D ∨ Trk H a) H3 (upd H3 D (.lst (vs ++ [v]))) := .self (Z := fun a => a = D ∨ Trk H a) (.inl rfl) _
      refine AtAll.append ((a1.sb (s3.mono fun b e => .inr (by rw [show b = W from e]; exact hW.trk))).sb sD) (.cons ((at3.less zz).sb sD) .nil)
    · rcases List.mem_append.mp hu with hu | hu
      · exact g1 u hu
      · rw [List.mem_singleton.mp hu]; exact gt
  · obtain ⟨s1, w1, vs, ts, e1, a1, l1, g1⟩ := p
    exact hd D H' vs ts s1 w1 hD e1 a1 l1 g1
end KL
end
section
namespace KL
open PySem PySem.Spec PyProof.Rows L2
abbrev sc_law_anyN : List Str := ["_law_well_here", "_law_deep", "_law_kind", "_law_items", "_law_k"]
abbrev s_law_any : Stmt := topS 30
theorem sc_law_any : FnScope ["_law_well_here", "_law_deep", "_law_kind", "_law_items", "_law_k"] ["_law_well_here", "_law_deep"] (defScope s_law_any) := ⟨rfl, rfl, rfl, by decide +kernel, rfl, by decide +kernel, by decide +kernel⟩
def anyB : Nat → Nat
  | 0 => 9
  | n + 1 => 3 * (anyB n + 1) + 5
theorem anyB_ge : ∀ d, 9 ≤ anyB d
  | 0 => Nat.le_refl _
  | d + 1 => by rw [anyB]; have := anyB_ge d; omega
/-- a new thing, of depth d -/
def spAny (n : Nat) : Sp := fun vs H Q _ => ∃ (W c : Addr) (d : Nat), vs = [.ref W, .int (d : Int)] ∧ WellAt W c H ∧ d < n ∧ ∀ v t H', SB (At1 W) H H' → WellAt W c H' → At (Trk H) H' t v → Gd (anyB d) (10 ^ 29) (2 * d) t → Q v H'
theorem decI {a b : Int} {A : Prop} (h : decide (V.int a = V.int b) = true) : a = b := by
  have e := of_decide_eq_true h
  injection e
theorem decI0 {a b : Int} (h : decide (V.int a = V.int b) = false) : a ≠ b := fun e => of_decide_eq_false h (congrArg V.int e)
theorem not_trk {W c : Addr} {H H' : Hp} {p : Addr} (s : SB (At1 W) H H') (w : WellAt W c H') (h : H' p = none) : ¬ Trk H p := fun t => (Trk.well s w t) h
section
variable {P : Program} {w : World} {K : PySem.W.Frag} {mg : Str → Option Value} {base : Heap} {k : Nat}
theorem ok_law_any {n : Nat} (Z : Zs mg) (c_law_draw : Cal P w K mg base CX0 k "_law_draw" ["_law_well_here", "_law_many"] spDraw) (c_law_any : Cal P w K mg base CX0 k "_law_any" ["_law_well_here", "_law_deep"] (spAny n)) (d : Def K mg "_law_any" s_law_any ["_law_well_here", "_law_deep"]) : Cal P w K mg base CX0 (k + 1) "_law_any" ["_law_well_here", "_law_deep"] (spAny (n + 1)) := by
  refine d.ok sc_law_any (fun vs H Q E h => ?_) (fun f cdv A outer s H vs Q E hr h => ?_)
  · obtain ⟨_, _, _, rfl, _⟩ := h; rfl
  obtain ⟨W, c, d, rfl, hw, hd, q⟩ := h
  refine ⟨_, (pss_cons (ps_set (i := 2) sc_law_any.nd rfl (Or.inl rfl) (pe_cal c_law_draw hr (by rfl) (pa_cons (pv 0) (pa_cons pe_int pa_nil))))
      (pss_cons (ps_if (pt_cmpR op_eq (pv 1) pe_int (nomark _)) (pss_one (ps_set (i := 2) sc_law_any.nd rfl (Or.inl rfl) (pe_op op_mod (pe_callTy (T := "int") call_int1 (by rfl) Z.int (by decide +kernel) (pa_cons (pv 2) pa_nil)) pe_int))) pss_nil)
      (pss_cons (ps_if (pt_cmpR op_eq (pv 2) pe_int (nomark _)) (pss_one (ps_ret (pe_op op_sub (pe_cal c_law_draw hr (by rfl) (pa_cons (pv 0) (pa_cons pe_int pa_nil))) pe_int))) pss_nil)
      (pss_cons (ps_if (pt_cmpR op_eq (pv 2) pe_int (nomark _)) (pss_one (ps_ret (pe_ix ix_list (pe_lst (pa_cons (pe_un un_neg (pe_op op_pow pe_int pe_int)) (pa_cons (pe_op op_pow pe_int pe_int) (pa_cons pe_int (pa_cons pe_int (pa_cons pe_int (pa_cons pe_int (pa_cons pe_int pa_nil)))))))) (pe_cal c_law_draw hr (by rfl) (pa_cons (pv 0) (pa_cons pe_int pa_nil))) (fun _ _ => rfl)))) pss_nil)
      (pss_cons (ps_if (pt_cmpR op_eq (pv 2) pe_int (nomark _)) (pss_one (ps_ret (pe_cmpR op_eq (pe_cal c_law_draw hr (by rfl) (pa_cons (pv 0) (pa_cons pe_int pa_nil))) pe_int (nomark _)))) pss_nil)
      (pss_cons (ps_if (pt_cmpR op_eq (pv 2) pe_int (nomark _)) (pss_one (ps_ret pe_non)) pss_nil)
      (pss_cons (ps_if (pt_cmpR op_le (pv 2) pe_int (nomark _)) (pss_one (ps_ret (pe_ix ix_list (pe_lst (pa_cons pe_str (pa_cons pe_str (pa_cons pe_str (pa_cons pe_str (pa_cons pe_str (pa_cons pe_str (pa_cons pe_str pa_nil)))))))) (pe_cal c_law_draw hr (by rfl) (pa_cons (pv 0) (pa_cons pe_int pa_nil))) (fun _ _ => rfl)))) pss_nil)
      (pss_cons (ps_setLc (i := 3) (own := [("_law_k", 4)]) (g := gName 4) (tt := tYes) rfl sc_law_any.nd rfl rfl (sw_true rfl rfl rfl (by decide +kernel)) (pi_range1 (by rfl) Z.range (pa_cons (pe_cal c_law_draw hr (by rfl) (pa_cons (pv 0) (pa_cons pe_int pa_nil))) pa_nil)) (blkOk_by (N := ["_law_well_here", "_law_deep", "_law_kind", "_law_items", "_law_k"]) (sc := defScope s_law_any) (by decide +kernel)) (fun _ _ _ _ _ => (pg_name (i := 4) sc_law_any.nd rfl (Or.inl rfl))) (fun _ _ _ _ _ => pts_nil) (fun _ _ _ _ _ => (pe_cal c_law_any hr (by rfl) (pa_cons (pv 0) (pa_cons (pe_op op_sub (pv 1) pe_int) pa_nil)))))
      (pss_cons (ps_if (pt_cmpR op_le (pv 2) pe_int (nomark _)) (pss_one (ps_ret (pe_callTy (T := "tuple") call_tuple_of (by rfl) Z.tuple (by decide +kernel) (pa_cons (pv 3) pa_nil)))) pss_nil)
      (pss_cons (ps_if (pt_cmpR op_eq (pv 2) pe_int (nomark _)) (pss_one (ps_ret (pv 3))) pss_nil)
      (pss_one (ps_ret (pe_disp (pps_cons pe_str (pv 3) (pps_cons pe_int pe_non pps_nil)) (by rfl) (by rfl) (fun z => by cases z) (by decide)))))))))))))), ?_⟩
  refine ⟨_, rfl, W, c, 11, rfl, hw, by decide, by decide, fun kd0 H1 k00 k01 s1 w1 => ?_⟩
  try dsimp only
  refine rd_ifz (fun σ' H' => H' = H1 ∧ ∃ kd : Int, σ' = [some (.ref W), some (.int (d : Int)), some (.int kd), none, none] ∧ 0 ≤ kd ∧ kd < 11 ∧ (d = 0 → kd < 6)) (fun N hN => ?_) (fun σ' H' hh => ?_)
  · refine ⟨_, rfl, rfl, _, rfl, iteB (fun e => ?_) (fun e => ?_)⟩
    · refine ⟨_, rfl, .inl ⟨kd0, rfl, _, _, rfl, rfl, (by show (0 : Int) < _; decide), ?_⟩⟩
      have b0 : 0 ≤ kd0 % 6 := Int.emod_nonneg _ (by decide)
      have b1 : kd0 % 6 < 6 := Int.emod_lt_of_pos _ (by decide)
      exact hN _ _ ⟨rfl, kd0 % 6, rfl, b0, by omega, fun _ => b1⟩
    · exact hN _ _ ⟨rfl, kd0, rfl, k00, k01, fun z => absurd (show ((d : Nat) : Int) = 0 by omega) (decI0 e)⟩
  obtain ⟨rfl, kd, rfl, k0, k1, k6⟩ := hh
  -- 0: a number
  refine ⟨_, rfl, rfl, _, rfl, iteB (fun e => ?_) (fun e0 => ?_)⟩
  · refine ⟨_, rfl, W, c, 80, rfl, w1, by decide, by decide, fun r H2 r0 r1 s2 w2 => ⟨_, _, rfl, rfl, q _ (.int (r - 10)) H2 (s1.trans s2) w2 rfl ((Gd.int (by omega)).mono (Nat.zero_le _) (Nat.le_refl _) (Nat.zero_le _))⟩⟩
  -- 1: a number of a list
  refine ⟨_, rfl, rfl, _, rfl, iteB (fun e => ?_) (fun e1 => ?_)⟩
  · refine ⟨_, _, rfl, rfl, ⟨by decide, by decide, by decide⟩, _, rfl, _, _, rfl, rfl, ⟨by decide, by decide, by decide⟩, (by show 7 ≤ sizeLine; decide), fun p hp => ?_⟩
    refine ⟨_, rfl, W, c, 7, rfl, w1.same (same_new hp _), by decide, by decide, fun r H2 r0 r1 s2 w2 => ?_⟩
    obtain ⟨x, ex, i, rfl, hi⟩ := pick (xs := [V.int (-((10 : Int) ^ (29 : Int).toNat)), .int ((10 : Int) ^ (29 : Int).toNat), .int 60, .int 61, .int 8, .int 9, .int 30]) (fun v => ∃ i : Int, v = V.int i ∧ i.natAbs ≤ 10 ^ 29) r0 r1
      (List.forall_mem_cons.mpr ⟨⟨_, rfl, by decide +kernel⟩, List.forall_mem_cons.mpr ⟨⟨_, rfl, by decide +kernel⟩, List.forall_mem_cons.mpr ⟨⟨_, rfl, by decide +kernel⟩, List.forall_mem_cons.mpr ⟨⟨_, rfl, by decide +kernel⟩, List.forall_mem_cons.mpr ⟨⟨_, rfl, by decide +kernel⟩, List.forall_mem_cons.mpr ⟨⟨_, rfl, by decide +kernel⟩, List.forall_mem_cons.mpr ⟨⟨_, rfl, by decide +kernel⟩, fun _ h => nomatch h⟩⟩⟩⟩⟩⟩⟩)
    have np : p ≠ W := fun e => by rw [e] at hp; exact w1.trk hp
    exact ⟨p, _, r, _, rfl, rfl, .of (s2 p _ np upd_same), ex, q _ (.int i) H2 ((s1.trans (.new hp _)).trans s2) w2 rfl ((Gd.int hi).mono (Nat.zero_le _) (Nat.le_refl _) (Nat.zero_le _))⟩
  -- 2: a flag
  refine ⟨_, rfl, rfl, _, rfl, iteB (fun e => ?_) (fun e2 => ?_)⟩
  · exact ⟨_, rfl, W, c, 2, rfl, w1, by decide, by decide, fun r H2 r0 r1 s2 w2 => ⟨rfl, q _ (.bl _) H2 (s1.trans s2) w2 rfl (Gd.bl.mono (Nat.zero_le _) (Nat.zero_le _) (Nat.zero_le _))⟩⟩
  -- 3: None
  refine ⟨_, rfl, rfl, _, rfl, iteB (fun e => ?_) (fun e3 => ?_)⟩
  · exact q _ .non _ s1 w1 rfl (Gd.non.mono (Nat.zero_le _) (Nat.zero_le _) (Nat.zero_le _))
  -- 4, 5: a text
  refine ⟨_, rfl, _, _, rfl, rfl, _, rfl, iteB (fun e => ?_) (fun e4 => ?_)⟩
  · refine ⟨(by show 7 ≤ sizeLine; decide), fun p hp => ?_⟩
    refine ⟨_, rfl, W, c, 7, rfl, w1.same (same_new hp _), by decide, by decide, fun r H2 r0 r1 s2 w2 => ?_⟩
    obtain ⟨x, ex, z, rfl, hz, ha⟩ := pick (xs := [V.str "", .str "0", .str "01", .str "2", .str "-", .str "size 1\n-\n", .str " \n"]) (fun v => ∃ z : Str, v = V.str z ∧ z.cps.size ≤ 9 ∧ (z.cps.toList.all fun c => decide (c < 128)) = true) r0 r1
      (List.forall_mem_cons.mpr ⟨⟨_, rfl, by decide +kernel, by decide +kernel⟩, List.forall_mem_cons.mpr ⟨⟨_, rfl, by decide +kernel, by decide +kernel⟩, List.forall_mem_cons.mpr ⟨⟨_, rfl, by decide +kernel, by decide +kernel⟩, List.forall_mem_cons.mpr ⟨⟨_, rfl, by decide +kernel, by decide +kernel⟩, List.forall_mem_cons.mpr ⟨⟨_, rfl, by decide +kernel, by decide +kernel⟩, List.forall_mem_cons.mpr ⟨⟨_, rfl, by decide +kernel, by decide +kernel⟩, List.forall_mem_cons.mpr ⟨⟨_, rfl, by decide +kernel, by decide +kernel⟩, fun _ h => nomatch h⟩⟩⟩⟩⟩⟩⟩)
    have np : p ≠ W := fun e => by rw [e] at hp; exact w1.trk hp
    exact ⟨p, _, r, _, rfl, rfl, .of (s2 p _ np upd_same), ex, q _ (.str z) H2 ((s1.trans (.new hp _)).trans s2) w2 rfl ((Gd.str hz ha).mono (anyB_ge d) (Nat.zero_le _) (Nat.zero_le _))⟩
  -- a tuple, a list, a dict of things
  have k5 : ¬ kd ≤ 5 := of_decide_eq_false e4
  have hd0 : d ≠ 0 := fun z => by have := k6 z; omega
  obtain ⟨d', rfl⟩ : ∃ d', d = d' + 1 := ⟨d - 1, by omega⟩
  refine ⟨_, rfl, W, c, 4, rfl, w1, by decide, by decide, fun r H2 r0 r1 s2 w2 => ⟨r, rfl, by omega, by omega, ?_⟩⟩
  refine lc_new (W := W) (c := c) (G := Gd (anyB d') (10 ^ 29) (2 * d')) w2 (by omega) (fun _ => rfl) (fun j H3 hj s3 w3 R hR => ?_) (fun D H4 vs ts s4 w4 hD eD aD l g => ?_)
  · refine ⟨_, rfl, _, rfl, _, _, rfl, rfl, W, c, d', ?_, w3, by omega, fun v t H' s' w' a g => hR v t H' s' w' a g⟩
    show [V.ref W, V.int (((d' + 1 : Nat) : Int) - 1)] = [V.ref W, V.int ((d' : Nat) : Int)]
    rw [show ((d' + 1 : Nat) : Int) - 1 = (d' : Int) by omega]
  have gL : GdL (3 * (anyB d' + 1)) (10 ^ 29) (2 * d') ts := GdL.all g (by omega)
  have nD : ¬ Trk H D := not_trk (s1.trans s2) w2 hD
  have aL : AtAll (Trk H) H4 ts vs := aD.less fun a t => .inr (Trk.well (s1.trans s2) w2 t)
  have sA := (s1.trans s2).trans s4
  refine ⟨_, rfl, _, _, rfl, rfl, _, rfl, iteB (fun e => ?_) (fun e8 => ?_)⟩
  · refine ⟨_, rfl, D, vs, rfl, .inl ⟨.of eD, fun p hp => ?_⟩⟩
    exact q _ (.tup ts) _ (sA.trans (.new hp _)) (w4.same (same_new hp _)) ⟨p, vs, rfl, not_trk sA w4 hp, upd_same, aL.same (same_new hp _)⟩ ((Gd.tup gL).mono (Nat.le_add_right _ _) (Nat.le_refl _) (by omega))
  refine ⟨_, rfl, rfl, _, rfl, iteB (fun e => ?_) (fun e9 => ?_)⟩
  · exact ⟨_, rfl, q _ (.lst ts) H4 sA w4 ⟨D, vs, rfl, nD, eD, aL⟩ ((Gd.lst gL).mono (Nat.le_add_right _ _) (Nat.le_refl _) (by omega))⟩
  · intro p hp
    have sp := same_new hp (.dK [])
    refine ⟨_, rfl, upd_same, [(Sum.inr "a", .ref D), (Sum.inl 1, .non)], rfl, (by show 2 ≤ 15; decide), ?_⟩
    rw [upd_upd]
    have sq := same_new hp (.dK (mergeK [] [(Sum.inr "a", .ref D), (Sum.inl 1, .non)]))
    exact q _ (.dic ts) _ (sA.trans (.of sq)) (w4.same sq) ⟨p, D, vs, rfl, not_trk sA w4 hp, nD, upd_same, sq _ _ eD, aL.same sq⟩ ((Gd.dic gL).mono (Nat.le_refl _) (Nat.le_refl _) (by omega))
/-- a def that nobody may call yet -/
theorem Def.none {x : Str} {st : Stmt} {ps : List Str} {sp : Sp} {CX : CXT} (d : Def K mg x st ps) (no : ∀ vs H Q E, ¬ sp vs H Q E) : Cal P w K mg base CX k x ps sp := by
  obtain ⟨f, fd, F, m, b⟩ := d.ex
  exact ⟨f, fd, ⟨fun vs H Q E h => absurd h (no vs H Q E), fun A outer s H args us vs Q E _ _ _ _ h => absurd h (no vs H Q E)⟩, m, F.kp, b⟩
theorem any_all (Z : Zs mg) (c_law_draw : Cal P w K mg base CX0 k "_law_draw" ["_law_well_here", "_law_many"] spDraw) (d : Def K mg "_law_any" s_law_any ["_law_well_here", "_law_deep"]) : ∀ n : Nat, Cal P w K mg base CX0 (k + n) "_law_any" ["_law_well_here", "_law_deep"] (spAny n)
  | 0 => d.none fun vs H Q E h => by obtain ⟨_, _, _, _, _, h, _⟩ := h; omega
  | n + 1 => ok_law_any Z (c_law_draw.mono (Nat.le_add_right _ _)) (any_all Z c_law_draw d n) d
/-- how many nodes a thing has -/
def spNodes (n : Nat) : Sp := fun vs H Q _ => ∃ Z t v, vs = [v] ∧ At Z H t v ∧ dp t < n ∧ bk t ≤ 1000000 ∧ ∀ H', Same H H' → Q (.int (nod t : Nat)) H'
theorem dpL_mem : ∀ {xs : List Th} {t : Th}, t ∈ xs → dp t ≤ dpL xs
  | x :: xs, t, h => by
    rw [dpL]
    rcases List.mem_cons.mp h with rfl | h
    · omega
    · have := dpL_mem h; omega
theorem bkL_mem : ∀ {xs : List Th} {t : Th}, t ∈ xs → bk t + 1 ≤ bkL xs
  | x :: xs, t, h => by
    rw [bkL]
    rcases List.mem_cons.mp h with rfl | h
    · omega
    · have := bkL_mem h; omega
theorem nodL_sum : ∀ xs : List Th, ((xs.map fun t => ((nod t : Nat) : Int))).sum = (nodL xs : Nat)
  | [] => rfl
  | x :: xs => by
    rw [List.map_cons, List.sum_cons, nodL_sum xs, nodL]
    omega
end
end KL
end
section
namespace KL
open PySem PySem.Spec PyProof.Rows L2
/-! ### errors without a word -/
section
variable {X : Cx} {C : Addr} {bmB : List Value} {B newId initId : String} {x : Str} {p pos : Pos}
theorem pmk_bare (F : ExcBaseFacts B newId initId bmB) (q : PySem.W.excIn X.K C bmB newId = true) (gC : X.mg x = some (.ref C)) (kC : PySem.W.keepIn X.K (.ref C) = true) (r : Raises X (.ref C)) (hg : Gl X x)
    (dbg : (x == ("__debug__" : Str)) = false := by decide) : PMk X (.Call (.Name x p) [] [] pos) (fun _ H Q => Q (.ref C) none H) := by
  intro pins s σ H Q J h
  refine wpAny_Call_Name_kw (ld_glob J hg gC ?_ dbg)
  refine PySem.W.callWith_K0 J.kIn kC ?_
  obtain ⟨_, _, _, _, _, _, _, _, _, _, _, _, _, _, _, _, _, g1, g2, g3, g4⟩ := exc_obj J.kIn q
  refine wpAny_call_exc_subT F g4 g1 g2 g3 (fun h2 e2 m2 => ?_) (Nat.zero_le _)
  exact mk_of J m2 r h (J.hok.gone m2.new)
end
/-- the error class at C, by the module's name x -/
structure Er (K : PySem.W.Frag) (mg : Str → Option Value) (x : Str) (C : Addr) : Prop where
  g : mg x = some (.ref C)
  x : PySem.W.excIn K C [.type "ValueError", .type "Exception", .type "BaseException", .type "object"] "ValueError.__new__" = true
  k : PySem.W.keepIn K (.ref C) = true
  b : PySem.W.subIn K (.ref C) (.type "BaseException") = some true
  t : PySem.W.typeIn K (.ref C) = some (.type "type")
  e : PySem.W.exmOne K (.ref C) (.ref C) = some true
section
variable {P : Program} {w : World} {K : PySem.W.Frag} {mg : Str → Option Value} {base : Heap} {k : Nat}
/-- THE RULE for a def that may raise -/
theorem Def.okX {x : Str} {st : Stmt} {N ps : List Str} {sp : Sp} (d : Def K mg x st ps) (S : FnScope N ps (defScope st)) (len : ∀ vs H Q E, sp vs H Q E → vs.length = ps.length)
    (body : ∀ (f : Addr) (cdv : Value) (A : Around) (outer : List Env) (s : Shared) (H : Hp) (vs : List V) (Q : VK) (E : XK), Room k (A.deeper (envOfC x (defScope st) s.heap.objs.size f cdv)) → sp vs H Q E →
      ∃ t, PSs (cxOf (L2.CX P w) P w K mg base N x (defScope st) f cdv A outer s H E) (defBody st) t ∧ t { nx := fun _ H' => Q .non H', rt := Q } (start N vs) H) : Cal P w K mg base (L2.CX P w) (k + 1) x ps sp := by
  obtain ⟨f, fd, F, m, b⟩ := d.ex
  exact ⟨f, fd, F.okX S len (body f), m, F.kp, b⟩
end
section
variable {X : Cx} {k : Nat} {x : Str} {ps : List Str} {sp : Sp} {e : Expr} {es : List Expr} {t : TA} {p pos : Pos} {W : WX}
/-- a call of a def that may raise, within a try -/
theorem pe_calS (C : Cal X.prog X.w X.K X.mg X.base (L2.CX X.prog X.w) k x ps sp) (hr : Room k X.A) (hg : Gl X x) (tk : Takes X W) (ha : PA X (e :: es) t) (hdb : (x == ("__debug__" : Str)) = false := by decide)
    (he : starEach (e :: es) X.env = (false, eval e X.env) :: starEach es X.env := by rfl) (hpl : (backTo pos (starEach es X.env)).any (·.1) = false := by rfl) :
    PE X (.Call (.Name x p) (e :: es) [] pos) (tCallS sp (WE W) t) :=
  let ⟨_, _, F, m, kp, b⟩ := C.ex
  pe_callS F hr hg m kp b (fun σ => passAt tk σ) ha hdb he hpl
end
def spText (C : Addr) : Sp := fun vs H Q E => ∃ Z u v e d, vs = [u, v] ∧ At Z H e u ∧ At Z H d v ∧ shortT e = true ∧ shortT d = true ∧ (inn 1 8 e = true → ∀ H', Same H H' → Q (.bl (textB (num e) d)) H') ∧ (inn 1 8 e = false → ∀ H', Same H H' → E (.ref C) none H')
section
variable {P : Program} {w : World} {K : PySem.W.Frag} {mg : Str → Option Value} {base : Heap} {k : Nat}
def bit (c : Nat) : Bool := c == 48 || c == 49
def bitsB : Th → Bool
  | .str x => x.cps.toList.all bit
  | _ => false
theorem isS_str {d : Th} (h : isS d = true) : ∃ x, d = .str x := by cases d <;> first | exact ⟨_, rfl⟩ | cases h
theorem eq48 (c : Nat) : decide ((⟨#[c]⟩ : Str) = "0") = (c == 48) := by
  have e : ("0" : Str) = ⟨#[48]⟩ := by decide
  rw [e]
  by_cases h : c = 48
  · subst h; decide
  · rw [decide_eq_false (fun q => h (by injection q with q; injection q with q; injection q)), beq_eq_false_iff_ne.mpr h]
theorem eq49 (c : Nat) : decide ((⟨#[c]⟩ : Str) = "1") = (c == 49) := by
  have e : ("1" : Str) = ⟨#[49]⟩ := by decide
  rw [e]
  by_cases h : c = 49
  · subst h; decide
  · rw [decide_eq_false (fun q => h (by injection q with q; injection q with q; injection q)), beq_eq_false_iff_ne.mpr h]
theorem strV (x y : Str) : decide (V.str x = V.str y) = decide (x = y) := decide_eq_decide.mpr ⟨fun e => by injection e, fun e => congrArg V.str e⟩
theorem inV_bit (c : Nat) : inV (.str ⟨#[c]⟩) [.str "0", .str "1"] = bit c := by
  have h0 := eq48 c
  have h1 := eq49 c
  have f : ∀ a b : Str, (a == b) = decide (b = a) := fun a b => by
    rw [show (a == b) = decide (a = b) from rfl]
    exact decide_eq_decide.mpr ⟨Eq.symm, Eq.symm⟩
  show ((("0" : Str) == ⟨#[c]⟩) || ((("1" : Str) == ⟨#[c]⟩) || false)) = bit c
  rw [f, f, h0, h1, Bool.or_false]
  rfl
theorem short_str {x : Str} (h : shortT (.str x) = true) : x.cps.size ≤ 1000000 := by
  rw [shortT, decide_eq_true_eq] at h
  exact h
abbrev sc_law_is_intN : List Str := ["_law_thing", "_law_least", "_law_most"]
abbrev s_law_is_int : Stmt := topS 35
theorem sc_law_is_int : FnScope ["_law_thing", "_law_least", "_law_most"] ["_law_thing", "_law_least", "_law_most"] (defScope s_law_is_int) := ⟨rfl, rfl, rfl, by decide +kernel, rfl, by decide +kernel, by decide +kernel⟩
abbrev sc_law_longN : List Str := ["_law_thing", "_law_many"]
abbrev s_law_long : Stmt := topS 36
theorem sc_law_long : FnScope ["_law_thing", "_law_many"] ["_law_thing", "_law_many"] (defScope s_law_long) := ⟨rfl, rfl, rfl, by decide +kernel, rfl, by decide +kernel, by decide +kernel⟩
abbrev sc_law_step_fitsN : List Str := ["_law_thing", "_law_states"]
abbrev s_law_step_fits : Stmt := topS 37
theorem sc_law_step_fits : FnScope ["_law_thing", "_law_states"] ["_law_thing", "_law_states"] (defScope s_law_step_fits) := ⟨rfl, rfl, rfl, by decide +kernel, rfl, by decide +kernel, by decide +kernel⟩
abbrev sc_law_row_fitsN : List Str := ["_law_thing", "_law_size", "_law_states", "_law_step_here"]
abbrev s_law_row_fits : Stmt := topS 38
theorem sc_law_row_fits : FnScope ["_law_thing", "_law_size", "_law_states", "_law_step_here"] ["_law_thing", "_law_size", "_law_states"] (defScope s_law_row_fits) := ⟨rfl, rfl, rfl, by decide +kernel, rfl, by decide +kernel, by decide +kernel⟩
abbrev sc_law_machine_fitsN : List Str := ["_law_thing", "_law_states", "_law_row"]
abbrev s_law_machine_fits : Stmt := topS 39
theorem sc_law_machine_fits : FnScope ["_law_thing", "_law_states", "_law_row"] ["_law_thing"] (defScope s_law_machine_fits) := ⟨rfl, rfl, rfl, by decide +kernel, rfl, by decide +kernel, by decide +kernel⟩
abbrev sc_law_text_fitsN : List Str := ["_law_size", "_law_thing", "_law_letter"]
abbrev s_law_text_fits : Stmt := topS 40
theorem sc_law_text_fits : FnScope ["_law_size", "_law_thing", "_law_letter"] ["_law_size", "_law_thing"] (defScope s_law_text_fits) := ⟨rfl, rfl, rfl, by decide +kernel, rfl, by decide +kernel, by decide +kernel⟩
theorem ok_law_is_int (Z : Zs mg) (d : Def K mg "_law_is_int" s_law_is_int ["_law_thing", "_law_least", "_law_most"]) : Cal P w K mg base CX0 (k + 1) "_law_is_int" ["_law_thing", "_law_least", "_law_most"] (spTh2 inn) := by
  refine d.ok sc_law_is_int (fun vs H Q E h => ?_) (fun f cdv A outer s H vs Q E hr h => ?_)
  · obtain ⟨_, _, _, _, _, rfl, _⟩ := h; rfl
  obtain ⟨Zn, v, d, lo, hi, rfl, h, sd, q⟩ := h
  have q' := q H (Same.refl H)
  refine ⟨_, (pss_one (ps_ret (pe_and (pe_callB (id := "isinstance") call_isi (by rfl) Z.isinstance (by decide +kernel) (pa_cons (pv 0) (pa_cons (pe_bltn (v := .ty "int") (by rfl) Z.int (by decide +kernel) rfl) pa_nil))) (pe_and (pe_not (pe_callB (id := "isinstance") call_isi (by rfl) Z.isinstance (by decide +kernel) (pa_cons (pv 0) (pa_cons (pe_bltn (v := .ty "bool") (by rfl) Z.bool (by decide +kernel) rfl) pa_nil)))) (pe_and (pe_cmpR op_le (pv 1) (pv 0) (nomark _)) (pe_one (pe_cmpR op_le (pv 0) (pv 2) (nomark _)))))))), ?_⟩
  refine ⟨v, rfl, _, _, _, _, _, rfl, .ty _, (At.tyx (h)), kit_ty (kitI d), _, rfl, iteB (fun e => ?_) (fun e => ?_)⟩
  · refine ⟨v, rfl, _, _, _, _, _, rfl, .ty _, (At.tyx (h)), kit_ty (kitBo d), _, rfl, _, rfl, iteB (fun e1 => ?_) (fun e1 => ?_)⟩
    · obtain ⟨i, rfl⟩ : ∃ i, d = .int i := isNum_int (by rw [isNum, e, e1]; rfl)
      cases h
      refine ⟨_, rfl, _, rfl, _, _, rfl, rfl, _, rfl, iteB (fun e2 => ?_) (fun e2 => ?_)⟩
      · refine ⟨_, rfl, _, rfl, _, _, rfl, rfl, ?_⟩
        rw [inn, e2] at q'
        exact q'
      · rw [inn, e2] at q'
        exact q'
    · rw [show inn lo hi d = false by cases d <;> first | rfl | cases e1] at q'
      exact q'
  · rw [show inn lo hi d = false by cases d <;> first | rfl | cases e] at q'
    exact q'
def longB (n : Int) : Th → Bool
  | .tup xs => decide ((xs.length : Int) = n)
  | _ => false
theorem ok_law_long (Z : Zs mg) (d : Def K mg "_law_long" s_law_long ["_law_thing", "_law_many"]) : Cal P w K mg base CX0 (k + 1) "_law_long" ["_law_thing", "_law_many"] (spTh1 longB) := by
  refine d.ok sc_law_long (fun vs H Q E h => ?_) (fun f cdv A outer s H vs Q E hr h => ?_)
  · obtain ⟨_, _, _, _, rfl, _⟩ := h; rfl
  obtain ⟨Zn, v, d, n, rfl, h, _, q⟩ := h
  have q' := q H (Same.refl H)
  refine ⟨_, (pss_one (ps_ret (pe_and (pe_callB (id := "isinstance") call_isi (by rfl) Z.isinstance (by decide +kernel) (pa_cons (pv 0) (pa_cons (pe_bltn (v := .ty "tuple") (by rfl) Z.tuple (by decide +kernel) rfl) pa_nil))) (pe_one (pe_cmpR op_eq (pe_callB (id := "len") call_len_seq (by rfl) Z.len (by decide +kernel) (pa_cons (pv 0) pa_nil)) (pv 1) (nomark _)))))), ?_⟩
  refine ⟨v, rfl, _, _, _, _, _, rfl, .ty _, (At.tyx (h)), kit_ty (kitT d), _, rfl, iteB (fun e => ?_) (fun e => ?_)⟩
  · obtain ⟨xs, rfl⟩ := isT_tup e
    obtain ⟨a, us, rfl, _, ea, ha⟩ := h
    refine ⟨_, rfl, a, us, rfl, .inr (.of ea), _, rfl, rfl, ?_⟩
    rw [longB] at q'
    rw [ha.len, show decide (V.int ((xs.length : Nat) : Int) = V.int n) = decide ((xs.length : Int) = n) from decide_eq_decide.mpr ⟨fun e => by injection e, fun e => congrArg V.int e⟩]
    exact q'
  · rw [show longB n d = false by cases d <;> first | rfl | cases e] at q'
    exact q'
theorem long2 {d : Th} (h : longB 2 d = true) : ∃ a b, d = .tup [a, b] := isPair_tup (by
  cases d with
  | tup xs =>
    rw [longB, decide_eq_true_eq] at h
    rw [isPair, decide_eq_true_eq]
    omega
  | _ => cases h)
theorem notlong2 {d : Th} (h : longB 2 d = false) : isPair d = false := by
  cases d with
  | tup xs =>
    rw [longB, decide_eq_false_iff_not] at h
    rw [isPair, decide_eq_false_iff_not]
    omega
  | _ => rfl
theorem stepB_not {n : Int} {d : Th} (h : isPair d = false) : stepB n d = false := by
  cases d with
  | tup xs => match xs, h with
    | [], _ => rfl
    | [_], _ => rfl
    | [_, _], h => cases h
    | _ :: _ :: _ :: _, _ => rfl
  | _ => rfl
theorem ok_law_step_fits (c_law_is_int : Cal P w K mg base CX0 k "_law_is_int" ["_law_thing", "_law_least", "_law_most"] (spTh2 inn)) (c_law_long : Cal P w K mg base CX0 k "_law_long" ["_law_thing", "_law_many"] (spTh1 longB)) (d : Def K mg "_law_step_fits" s_law_step_fits ["_law_thing", "_law_states"]) : Cal P w K mg base CX0 (k + 1) "_law_step_fits" ["_law_thing", "_law_states"] (spTh1 stepO) := by
  refine d.ok sc_law_step_fits (fun vs H Q E h => ?_) (fun f cdv A outer s H vs Q E hr h => ?_)
  · obtain ⟨_, _, _, _, rfl, _⟩ := h; rfl
  obtain ⟨Zn, v, d, n, rfl, h, sd, q⟩ := h
  refine ⟨_, (pss_cons (ps_if (pt_cmpR op_isN (pv 0) pe_non (nomark _)) (pss_one (ps_ret pe_bl)) pss_nil)
      (pss_one (ps_ret (pe_and (pe_cal c_law_long hr (by rfl) (pa_cons (pv 0) (pa_cons pe_int pa_nil))) (pe_and (pe_cal c_law_is_int hr (by rfl) (pa_cons (pe_ix ix_tup (pv 0) pe_int (fun _ _ => rfl)) (pa_cons pe_int (pa_cons pe_int pa_nil)))) (pe_one (pe_cal c_law_is_int hr (by rfl) (pa_cons (pe_ix ix_tup (pv 0) pe_int (fun _ _ => rfl)) (pa_cons pe_int (pa_cons (pe_op op_sub (pv 1) pe_int) pa_nil)))))))))), ?_⟩
  refine ⟨v, rfl, rfl, _, rfl, iteB (fun e => ?_) (fun e => ?_)⟩
  · rw [h.isN] at e
    have q' := q H (Same.refl H)
    rw [stepO, e] at q'
    exact q'
  rw [h.isN] at e
  rw [show stepO n d = stepB n d by rw [stepO, e, Bool.false_or]] at q
  refine ⟨v, rfl, Zn, v, d, 2, rfl, h, sd, fun H1 s1 => ⟨_, rfl, iteB (fun e1 => ?_) (fun e1 => ?_)⟩⟩
  · obtain ⟨a, b, rfl⟩ := long2 e1
    obtain ⟨p, u, w', rfl, ep, ha, hb⟩ := (h.same s1).pair
    obtain ⟨sa, sb⟩ := short_pair sd
    refine ⟨_, rfl, p, [u, w'], 0, u, rfl, rfl, .of ep, rfl, Zn, u, a, 0, 60, rfl, ha, sa, fun H2 s2 => ⟨_, rfl, iteB (fun e2 => ?_) (fun e2 => ?_)⟩⟩
    · refine ⟨_, rfl, p, [u, w'], 1, w', rfl, rfl, .of (s2 _ _ ep), rfl, _, rfl, _, _, rfl, rfl, Zn, w', b, 0, n - 1, rfl, hb.same s2, sb, fun H3 s3 => ?_⟩
      have q' := q H3 (s1.trans (s2.trans s3))
      rw [stepB, e2] at q'
      exact q'
    · have q' := q H2 (s1.trans s2)
      rw [stepB, e2] at q'
      exact q'
  · have q' := q H1 s1
    rw [stepB_not (notlong2 e1)] at q'
    exact q'
def snd : Th → Th
  | .tup [_, b] => b
  | _ => .non
theorem rowB_long {z n : Int} {d : Th} (h : (!(longB 2 d && longB z (snd d))) = true) : rowB z n d = false := by
  have h' := not_true h
  cases e : longB 2 d with
  | false => exact rowB_not (notlong2 e)
  | true =>
    obtain ⟨a, b, rfl⟩ := long2 e
    rw [e, Bool.true_and] at h'
    exact rowB_len (by
      rw [show snd (.tup [a, b]) = b from rfl] at h'
      cases b with
      | tup ss => rw [longB] at h'; rw [tlen, h']; rfl
      | _ => rfl)
theorem longB_tup {z : Int} {d : Th} (h : longB z d = true) : ∃ ss, d = .tup ss ∧ (ss.length : Int) = z := by
  cases d with
  | tup ss => rw [longB, decide_eq_true_eq] at h; exact ⟨ss, rfl, h⟩
  | _ => cases h
theorem ok_law_row_fits (Z : Zs mg) (c_law_is_int : Cal P w K mg base CX0 k "_law_is_int" ["_law_thing", "_law_least", "_law_most"] (spTh2 inn)) (c_law_long : Cal P w K mg base CX0 k "_law_long" ["_law_thing", "_law_many"] (spTh1 longB)) (c_law_step_fits : Cal P w K mg base CX0 k "_law_step_fits" ["_law_thing", "_law_states"] (spTh1 stepO)) (d : Def K mg "_law_row_fits" s_law_row_fits ["_law_thing", "_law_size", "_law_states"]) : Cal P w K mg base CX0 (k + 1) "_law_row_fits" ["_law_thing", "_law_size", "_law_states"] (spTh2 rowB) := by
  refine d.ok sc_law_row_fits (fun vs H Q E h => ?_) (fun f cdv A outer s H vs Q E hr h => ?_)
  · obtain ⟨_, _, _, _, _, rfl, _⟩ := h; rfl
  obtain ⟨Zn, v, d, z, n, rfl, h, sd, q⟩ := h
  refine ⟨_, (pss_cons (ps_if (PW.pt (pw_or (pt_not (pt_val (pe_cal c_law_long hr (by rfl) (pa_cons (pv 0) (pa_cons pe_int pa_nil))))) (pw_or1 (pt_not (pt_val (pe_cal c_law_long hr (by rfl) (pa_cons (pe_ix ix_tup (pv 0) pe_int (fun _ _ => rfl)) (pa_cons (pv 1) pa_nil)))))))) (pss_one (ps_ret pe_bl)) pss_nil)
      (pss_cons (ps_if (PW.pt (pw_and (pt_cmpR op_notN (pe_ix ix_tup (pv 0) pe_int (fun _ _ => rfl)) pe_non (nomark _)) (pw_and1 (pt_not (pt_val (pe_cal c_law_is_int hr (by rfl) (pa_cons (pe_ix ix_tup (pv 0) pe_int (fun _ _ => rfl)) (pa_cons pe_int (pa_cons pe_int pa_nil))))))))) (pss_one (ps_ret pe_bl)) pss_nil)
      (pss_one (ps_ret (pe_callB (id := "all") (cr_all rfl) (by rfl) Z.all (by decide +kernel) (pa_cons (pe_lc (own := [("_law_step_here", 3)]) (g := gName 3) (tt := tYes) rfl sc_law_row_fits.nd (pi_tup (pe_ix ix_tup (pv 0) pe_int (fun _ _ => rfl))) (blkOk_by (N := ["_law_thing", "_law_size", "_law_states", "_law_step_here"]) (sc := defScope s_law_row_fits) (by decide +kernel)) (fun _ _ _ _ _ => (pg_name (i := 3) sc_law_row_fits.nd rfl (Or.inl rfl))) (fun _ _ _ _ _ => pts_nil) (fun _ _ _ _ _ => (pe_cal c_law_step_fits hr (by rfl) (pa_cons (pv 3) (pa_cons (pv 2) pa_nil))))) pa_nil)))))), ?_⟩
  refine rd_ifs (!(longB 2 d && longB z (snd d))) (fun R hR => ?_) (fun H2 s2 e2 => ?_) (fun H2 s2 e2 => ?_)
  · refine ⟨v, rfl, Zn, v, d, 2, rfl, h, sd, fun H1 s1 => ⟨_, rfl, iteB (fun e1 => ?_) (fun e1 => ?_)⟩⟩
    · have r' := hR H1 s1
      rw [not_true e1, Bool.false_and] at r'
      exact r'
    · obtain ⟨a, b, rfl⟩ := long2 (not_false' e1)
      obtain ⟨p, u, w', rfl, ep, ha, hb⟩ := (h.same s1).pair
      obtain ⟨sa, sb⟩ := short_pair sd
      refine ⟨_, rfl, p, [u, w'], 1, w', rfl, rfl, .of ep, rfl, _, rfl, Zn, w', b, z, rfl, hb, sb, fun H2 s2 => ⟨_, rfl, ?_⟩⟩
      have r' := hR H2 (s1.trans s2)
      rw [not_false' e1, Bool.true_and] at r'
      exact r'
  · have q' := q H2 s2
    rw [rowB_long e2] at q'
    exact q'
  have e3 := not_false' e2
  rw [Bool.and_eq_true] at e3
  obtain ⟨a, b, rfl⟩ := long2 e3.1
  obtain ⟨ss, e4, e5⟩ := longB_tup e3.2
  rw [show snd (.tup [a, b]) = b from rfl] at e4
  subst e4
  obtain ⟨p, u, w', rfl, ep, ha, hb⟩ := (h.same s2).pair
  obtain ⟨sa, sb⟩ := short_pair sd
  try dsimp only
  refine rd_ifs (!(isNon a || inn 1 60 a)) (fun R hR => ?_) (fun H3 s3 e6 => ?_) (fun H3 s3 e6 => ?_)
  · refine ⟨_, rfl, p, [u, w'], 0, u, rfl, rfl, .of ep, rfl, rfl, _, rfl, iteB (fun e1 => ?_) (fun e1 => ?_)⟩
    · rw [ha.isN] at e1
      refine ⟨_, rfl, p, [u, w'], 0, u, rfl, rfl, .of ep, rfl, Zn, u, a, 1, 60, rfl, ha, sa, fun H3 s3 => ⟨_, rfl, ?_⟩⟩
      have r' := hR H3 s3
      rw [not_true e1, Bool.false_or] at r'
      exact r'
    · rw [ha.isN] at e1
      have r' := hR H2 (Same.refl H2)
      rw [not_false' e1, Bool.true_or] at r'
      exact r'
  · have q' := q H3 (s2.trans s3)
    rw [rowB_end e6] at q'
    exact q'
  have eA := not_false' e6
  obtain ⟨p2, us, rfl, _, e2', hs⟩ := hb.same s3
  obtain ⟨l1, l2⟩ := short_tup sb
  refine ⟨_, rfl, p, [u, .ref p2], 1, .ref p2, rfl, rfl, .of (s3 _ _ ep), rfl, p2, rfl, ⟨_, .of e2'⟩, lc_bl (f := stepO n) e2' hs l1 (fun _ => rfl) (fun x dx H4 md s4 hx R hR => ?_) (fun D H4 s4 hD eD => ⟨D, _, rfl, .of eD, ?_⟩)⟩
  · exact ⟨x, rfl, _, rfl, Zn, x, dx, n, rfl, hx, shortL_mem l2 md, fun H5 s5 => hR H5 s5⟩
  · have q' := q H4 (s2.trans (s3.trans s4))
    rw [show rowB z n (.tup [a, .tup ss]) = ((ss.map (stepO n)).all id) by
      rw [rowB, eA, show decide ((ss.length : Int) = z) = true from decide_eq_true e5, List.all_map]; rfl] at q'
    exact q'
def fstT : Th → Th
  | .tup [a, _] => a
  | _ => .non
theorem machB_head {d : Th} (h : (!(longB 2 d && inn 1 8 (fstT d) && isT (snd d))) = true) : machB d = false := by
  have h' := not_true h
  cases e : longB 2 d with
  | false => exact machB_not (notlong2 e)
  | true =>
    obtain ⟨a, b, rfl⟩ := long2 e
    rw [e, Bool.true_and] at h'
    exact machB_size (by rw [show (inn 1 8 a && isT b) = false from h']; rfl)
theorem ok_law_machine_fits (Z : Zs mg) (c_law_is_int : Cal P w K mg base CX0 k "_law_is_int" ["_law_thing", "_law_least", "_law_most"] (spTh2 inn)) (c_law_long : Cal P w K mg base CX0 k "_law_long" ["_law_thing", "_law_many"] (spTh1 longB)) (c_law_row_fits : Cal P w K mg base CX0 k "_law_row_fits" ["_law_thing", "_law_size", "_law_states"] (spTh2 rowB)) (d : Def K mg "_law_machine_fits" s_law_machine_fits ["_law_thing"]) : Cal P w K mg base CX0 (k + 1) "_law_machine_fits" ["_law_thing"] (spTh machB) := by
  refine d.ok sc_law_machine_fits (fun vs H Q E h => ?_) (fun f cdv A outer s H vs Q E hr h => ?_)
  · obtain ⟨_, _, _, rfl, _⟩ := h; rfl
  obtain ⟨Zn, v, d, rfl, h, sd, q⟩ := h
  refine ⟨_, (pss_cons (ps_if (PW.pt (pw_or (pt_not (pt_val (pe_cal c_law_long hr (by rfl) (pa_cons (pv 0) (pa_cons pe_int pa_nil))))) (pw_or (pt_not (pt_val (pe_cal c_law_is_int hr (by rfl) (pa_cons (pe_ix ix_tup (pv 0) pe_int (fun _ _ => rfl)) (pa_cons pe_int (pa_cons pe_int pa_nil)))))) (pw_or1 (pt_not (pt_val (pe_callB (id := "isinstance") call_isi (by rfl) Z.isinstance (by decide +kernel) (pa_cons (pe_ix ix_tup (pv 0) pe_int (fun _ _ => rfl)) (pa_cons (pe_bltn (v := .ty "tuple") (by rfl) Z.tuple (by decide +kernel) rfl) pa_nil))))))))) (pss_one (ps_ret pe_bl)) pss_nil)
      (pss_cons (ps_set (i := 1) sc_law_machine_fits.nd rfl (Or.inr rfl) (pe_callB (id := "len") call_len_seq (by rfl) Z.len (by decide +kernel) (pa_cons (pe_ix ix_tup (pv 0) pe_int (fun _ _ => rfl)) pa_nil)))
      (pss_one (ps_ret (pe_and (pe_cmpR op_le pe_int (pv 1) (nomark _)) (pe_and (pe_cmpR op_le (pv 1) pe_int (nomark _)) (pe_one (pe_callB (id := "all") (cr_all rfl) (by rfl) Z.all (by decide +kernel) (pa_cons (pe_lc (own := [("_law_row", 2)]) (g := gName 2) (tt := tYes) rfl sc_law_machine_fits.nd (pi_tup (pe_ix ix_tup (pv 0) pe_int (fun _ _ => rfl))) (blkOk_by (N := ["_law_thing", "_law_states", "_law_row"]) (sc := defScope s_law_machine_fits) (by decide +kernel)) (fun _ _ _ _ _ => (pg_name (i := 2) sc_law_machine_fits.nd rfl (Or.inl rfl))) (fun _ _ _ _ _ => pts_nil) (fun _ _ _ _ _ => (pe_cal c_law_row_fits hr (by rfl) (pa_cons (pv 2) (pa_cons (pe_ix (r := rIxT K) ix_tup (pv 0) pe_int (fun _ _ => rfl)) (pa_cons (pv 1) pa_nil)))))) pa_nil))))))))), ?_⟩
  refine rd_ifs (!(longB 2 d && inn 1 8 (fstT d) && isT (snd d))) (fun R hR => ?_) (fun H2 s2 e2 => ?_) (fun H2 s2 e2 => ?_)
  · refine ⟨v, rfl, Zn, v, d, 2, rfl, h, sd, fun H1 s1 => ⟨_, rfl, iteB (fun e1 => ?_) (fun e1 => ?_)⟩⟩
    · have r' := hR H1 s1
      rw [not_true e1, Bool.false_and, Bool.false_and] at r'
      exact r'
    · obtain ⟨a, b, rfl⟩ := long2 (not_false' e1)
      obtain ⟨p, u, w', rfl, ep, ha, hb⟩ := (h.same s1).pair
      obtain ⟨sa, sb⟩ := short_pair sd
      refine ⟨_, rfl, p, [u, w'], 0, u, rfl, rfl, .of ep, rfl, Zn, u, a, 1, 8, rfl, ha, sa, fun H2 s2 => ⟨_, rfl, iteB (fun e3 => ?_) (fun e3 => ?_)⟩⟩
      · have r' := hR H2 (s1.trans s2)
        rw [show fstT (.tup [a, b]) = a from rfl, not_true e3, Bool.and_false, Bool.false_and] at r'
        exact r'
      · refine ⟨_, rfl, p, [u, w'], 1, w', rfl, rfl, .of (s2 _ _ ep), rfl, _, _, _, _, _, rfl, .ty _, (At.tyx (hb.same s2)), kit_ty (kitT b), _, rfl, ?_⟩
        have r' := hR H2 (s1.trans s2)
        rw [show fstT (.tup [a, b]) = a from rfl, not_false' e3, not_false' e1] at r'
        exact r'
  · have q' := q H2 s2
    rw [machB_head e2] at q'
    exact q'
  have e3 := not_false' e2
  rw [Bool.and_eq_true, Bool.and_eq_true] at e3
  obtain ⟨a, b, rfl⟩ := long2 e3.1.1
  have ea : inn 1 8 a = true := e3.1.2
  obtain ⟨z, rfl, z1, z8⟩ := inn_int ea
  obtain ⟨rows, e4⟩ := isT_tup e3.2
  rw [show snd (.tup [.int z, b]) = b from rfl] at e4
  subst e4
  obtain ⟨p, u, w', rfl, ep, ha, hb⟩ := (h.same s2).pair
  cases ha
  obtain ⟨sa, sb⟩ := short_pair sd
  obtain ⟨p2, us, rfl, np2, e2', hs⟩ := hb
  obtain ⟨l1, l2⟩ := short_tup sb
  have hl : ((us.length : Nat) : Int) = ((rows.length : Nat) : Int) := by rw [hs.len]
  have d1 : decide ((1 : Int) ≤ ((us.length : Nat) : Int)) = decide (1 ≤ rows.length) := by rw [hl]; exact decide_eq_decide.mpr (by omega)
  have d2 : decide (((us.length : Nat) : Int) ≤ (30 : Int)) = decide (rows.length ≤ 30) := by rw [hl]; exact decide_eq_decide.mpr (by omega)
  refine ⟨_, rfl, p, [.int z, .ref p2], 1, .ref p2, rfl, rfl, .of ep, rfl, p2, us, rfl, .inr (.of e2'), ?_⟩
  refine ⟨_, rfl, _, _, rfl, rfl, _, rfl, iteB (fun e5 => ?_) (fun e5 => ?_)⟩
  · rw [d1] at e5
    refine ⟨_, rfl, _, _, rfl, rfl, _, rfl, iteB (fun e6 => ?_) (fun e6 => ?_)⟩
    · rw [d2] at e6
      refine ⟨_, rfl, p, [.int z, .ref p2], 1, .ref p2, rfl, rfl, .of ep, rfl, p2, rfl, ⟨_, .of e2'⟩, lc_bl (f := rowB z (rows.length : Int)) e2' hs l1 (fun _ => rfl) (fun x dx H4 md s4 hx R hR => ?_) (fun D H4 s4 hD eD => ⟨D, _, rfl, .of eD, ?_⟩)⟩
      · refine ⟨x, rfl, _, rfl, p, [.int z, .ref p2], 0, .int z, rfl, rfl, .of (s4 _ _ ep), rfl, _, rfl, Zn, x, dx, z, _, rfl, hx, shortL_mem l2 md, fun H5 s5 => ?_⟩
        rw [hl]
        exact hR H5 s5
      · have q' := q H4 (s2.trans s4)
        rw [show machB (.tup [.int z, .tup rows]) = ((rows.map (rowB z (rows.length : Int))).all id) by
          rw [machB, e5, e6, ea, List.all_map]; rfl] at q'
        exact q'
    · rw [d2] at e6
      have q' := q H2 s2
      rw [show machB (.tup [.int z, .tup rows]) = false by rw [machB, e6, Bool.and_false, Bool.false_and]] at q'
      exact q'
  · rw [d1] at e5
    have q' := q H2 s2
    rw [show machB (.tup [.int z, .tup rows]) = false by rw [machB, e5, Bool.and_false, Bool.false_and, Bool.false_and]] at q'
    exact q'
def spTF : Sp := fun vs H Q _ => ∃ Z v d z, vs = [.int z, v] ∧ At Z H d v ∧ shortT d = true ∧ ∀ H', Same H H' → Q (.bl (textB z d)) H'
theorem ok_law_text_fits (Z : Zs mg) (c_law_is_int : Cal P w K mg base CX0 k "_law_is_int" ["_law_thing", "_law_least", "_law_most"] (spTh2 inn)) (d : Def K mg "_law_text_fits" s_law_text_fits ["_law_size", "_law_thing"]) : Cal P w K mg base CX0 (k + 1) "_law_text_fits" ["_law_size", "_law_thing"] spTF := by
  refine d.ok sc_law_text_fits (fun vs H Q E h => ?_) (fun f cdv A outer s H vs Q E hr h => ?_)
  · obtain ⟨_, _, _, _, rfl, _⟩ := h; rfl
  obtain ⟨Zn, v, d, z, rfl, h, sd, q⟩ := h
  refine ⟨_, (pss_one (ps_ret (pe_and (pe_callB (id := "isinstance") call_isi (by rfl) Z.isinstance (by decide +kernel) (pa_cons (pv 1) (pa_cons (pe_bltn (v := .ty "tuple") (by rfl) Z.tuple (by decide +kernel) rfl) pa_nil))) (pe_one (pe_callB (id := "all") (cr_all rfl) (by rfl) Z.all (by decide +kernel) (pa_cons (pe_lc (own := [("_law_letter", 2)]) (g := gName 2) (tt := tYes) rfl sc_law_text_fits.nd (pi_tup (pv 1)) (blkOk_by (N := ["_law_size", "_law_thing", "_law_letter"]) (sc := defScope s_law_text_fits) (by decide +kernel)) (fun _ _ _ _ _ => (pg_name (i := 2) sc_law_text_fits.nd rfl (Or.inl rfl))) (fun _ _ _ _ _ => pts_nil) (fun _ _ _ _ _ => (pe_cal c_law_is_int hr (by rfl) (pa_cons (pv 2) (pa_cons pe_int (pa_cons (pe_op op_sub (pv 0) pe_int) pa_nil)))))) pa_nil)))))), ?_⟩
  refine ⟨v, rfl, _, _, _, _, _, rfl, .ty _, (At.tyx (h)), kit_ty (kitT d), _, rfl, iteB (fun e3 => ?_) (fun e3 => ?_)⟩
  · obtain ⟨ls, rfl⟩ := isT_tup e3
    obtain ⟨a, us, rfl, _, ea, hs⟩ := h
    obtain ⟨l1, l2⟩ := short_tup sd
    refine ⟨_, rfl, a, rfl, ⟨_, .of ea⟩, lc_bl (f := inn 0 (z - 1)) ea hs l1 (fun _ => rfl) (fun x dx H4 md s4 hx R hR => ?_) (fun D H4 s4 hD eD => ⟨D, _, rfl, .of eD, ?_⟩)⟩
    · exact ⟨x, rfl, _, rfl, _, _, rfl, rfl, Zn, x, dx, 0, z - 1, rfl, hx, shortL_mem l2 md, fun H5 s5 => hR H5 s5⟩
    · have q' := q H4 s4
      rw [show textB z (.tup ls) = ((ls.map (inn 0 (z - 1))).all id) by rw [List.all_map]; rfl] at q'
      exact q'
  · have q' := q H (Same.refl H)
    rw [show textB z d = false by cases d <;> first | rfl | cases e3] at q'
    exact q'
end
end KL
end
section
set_option maxHeartbeats 1000000
namespace KL
open PySem PySem.Spec PyProof.Rows L2
/-! ### tuples of things cut, put together, doubled -/
theorem bkL_take : ∀ (n : Nat) (xs : List Th), bkL (xs.take n) ≤ bkL xs
  | 0, xs => by rw [List.take_zero]; exact Nat.zero_le _
  | n + 1, [] => Nat.le_refl _
  | n + 1, x :: xs => by rw [List.take_succ_cons, bkL, bkL]; have := bkL_take n xs; omega
theorem bkL_drop : ∀ (n : Nat) (xs : List Th), bkL (xs.drop n) ≤ bkL xs
  | 0, xs => Nat.le_refl _
  | n + 1, [] => Nat.le_refl _
  | n + 1, x :: xs => by rw [List.drop_succ_cons, bkL]; have := bkL_drop n xs; omega
theorem lfL_take {M : Nat} : ∀ (n : Nat) (xs : List Th), lfL M xs = true → lfL M (xs.take n) = true
  | 0, xs, _ => by rw [List.take_zero]; rfl
  | n + 1, [], h => h
  | n + 1, x :: xs, h => by
    rw [lfL, Bool.and_eq_true] at h
    rw [List.take_succ_cons, lfL, h.1, lfL_take n xs h.2]
    rfl
theorem lfL_drop {M : Nat} : ∀ (n : Nat) (xs : List Th), lfL M xs = true → lfL M (xs.drop n) = true
  | 0, xs, h => h
  | n + 1, [], h => h
  | n + 1, x :: xs, h => by
    rw [lfL, Bool.and_eq_true] at h
    exact lfL_drop n xs h.2
theorem dpL_take : ∀ (n : Nat) (xs : List Th), dpL (xs.take n) ≤ dpL xs
  | 0, xs => by rw [List.take_zero]; exact Nat.zero_le _
  | n + 1, [] => Nat.le_refl _
  | n + 1, x :: xs => by rw [List.take_succ_cons, dpL, dpL]; have := dpL_take n xs; omega
theorem dpL_drop : ∀ (n : Nat) (xs : List Th), dpL (xs.drop n) ≤ dpL xs
  | 0, xs => Nat.le_refl _
  | n + 1, [] => Nat.le_refl _
  | n + 1, x :: xs => by rw [List.drop_succ_cons, dpL]; have := dpL_drop n xs; omega
theorem GdL.take {B M D : Nat} {ts : List Th} (g : GdL B M D ts) (n : Nat) : GdL B M D (ts.take n) := ⟨Nat.le_trans (bkL_take n ts) g.b, lfL_take n ts g.m, Nat.le_trans (dpL_take n ts) g.d⟩
theorem GdL.drop {B M D : Nat} {ts : List Th} (g : GdL B M D ts) (n : Nat) : GdL B M D (ts.drop n) := ⟨Nat.le_trans (bkL_drop n ts) g.b, lfL_drop n ts g.m, Nat.le_trans (dpL_drop n ts) g.d⟩
theorem Gd.items {B M D : Nat} {ts : List Th} (g : Gd B M D (.tup ts)) : GdL B M (D - 1) ts := ⟨g.b, g.m, by have := g.d; rw [dp] at this; omega⟩
theorem lfL_mem {M : Nat} : ∀ {xs : List Th} {t : Th}, t ∈ xs → lfL M xs = true → lf M t = true
  | x :: xs, t, h, e => by
    rw [lfL, Bool.and_eq_true] at e
    rcases List.mem_cons.mp h with rfl | h
    · exact e.1
    · exact lfL_mem h e.2
theorem GdL.item {B M D : Nat} {ts : List Th} {t : Th} (g : GdL B M D ts) (h : t ∈ ts) : Gd B M D t := ⟨by have := bkL_mem h; have := g.b; omega, lfL_mem h g.m, Nat.le_trans (dpL_mem h) g.d⟩
theorem ne_new {W p : Addr} {H : Hp} (w : Trk H W) (h : H p = none) : p ≠ W := fun e => w (e ▸ h)
def rSlG (K : PySem.W.Frag) : V → Option Int → Option Int → Hp → VK → Prop := fun x lo hi H Q => ∃ W ds B M D, At (At1 W) H (.tup ds) x ∧ Trk H W ∧ GdL B M D ds ∧ ∀ v es H', Same H H' → At (At1 W) H' (.tup es) v → GdL B M D es → Q v H'
def rCatG (K : PySem.W.Frag) : R2 := fun x y H Q => ∃ W ds es B C M D, At (At1 W) H (.tup ds) x ∧ At (At1 W) H (.tup es) y ∧ Trk H W ∧ GdL B M D ds ∧ GdL C M D es ∧ B + C ≤ 1000000 ∧ ∀ v us H', Same H H' → At (At1 W) H' (.tup us) v → GdL (B + C) M D us → Q v H'
def rRepG (K : PySem.W.Frag) : R2 := fun x y H Q => ∃ W ds B M D, y = .int 2 ∧ At (At1 W) H (.tup ds) x ∧ Trk H W ∧ GdL B M D ds ∧ B ≤ 1000000 ∧ ∀ v us H', Same H H' → At (At1 W) H' (.tup us) v → GdL (B + B) M D us → Q v H'
section
variable {X : Cx}
theorem sl_thing : SlR X (rSlG X.K) := by
  intro pins s σ H x v vl vu lo hi sl Q I rx hs pl pu h
  refine sl_tupA pins s σ H x v vl vu lo hi sl Q I rx hs pl pu ?_
  obtain ⟨W, ds, B, M, D, h, hW, g, q⟩ := h
  obtain ⟨a, vs, rfl, na, e, ha⟩ := id h
  refine ⟨a, vs, rfl, .of e, fun _ => q _ ds H (Same.refl H) h g, fun _ p hp => ?_⟩
  have sp := same_new hp (.tup (cutV vs lo hi))
  exact q _ _ _ sp ⟨p, _, rfl, ne_new hW hp, upd_same, ((ha.drop _).take _).same sp⟩ ((g.drop _).take _)
theorem op_catG : OpR X (binaryOp .Add) (rCatG X.K) := by
  intro pins s σ H x y v u Q I rx ry h
  refine op_catA pins s σ H x y v u Q I rx ry ?_
  obtain ⟨W, ds, es, B, C, M, D, h1, h2, hW, g1, g2, hz, q⟩ := h
  obtain ⟨a, vs, rfl, na, e1, a1⟩ := id h1
  obtain ⟨b, us, rfl, nb, e2, a2⟩ := id h2
  have l1 := len_bkL ds
  have l2 := len_bkL es
  have b1 := g1.b
  have b2 := g2.b
  refine ⟨a, b, vs, us, rfl, rfl, .of e1, .of e2, by rw [a1.len, a2.len, sizeLine_eq]; omega, fun z => ?_, fun _ z => ?_, fun _ _ p hp => ?_⟩
  · exact q _ es H (Same.refl H) h2 (g2.mono (Nat.le_add_left _ _) (Nat.le_refl _) (Nat.le_refl _))
  · exact q _ ds H (Same.refl H) h1 (g1.mono (Nat.le_add_right _ _) (Nat.le_refl _) (Nat.le_refl _))
  · have sp := same_new hp (.tup (vs ++ us))
    exact q _ (ds ++ es) _ sp ⟨p, _, rfl, ne_new hW hp, upd_same, (a1.append a2).same sp⟩ (g1.append g2)
theorem op_repG : OpR X (binaryOp .Mult) (rRepG X.K) := by
  intro pins s σ H x y v u Q I rx ry h
  refine op_rep2 pins s σ H x y v u Q I rx ry ?_
  obtain ⟨W, ds, B, M, D, rfl, h1, hW, g1, hz, q⟩ := h
  obtain ⟨a, vs, rfl, na, e1, a1⟩ := id h1
  have l1 := len_bkL ds
  have b1 := g1.b
  refine ⟨a, vs, rfl, rfl, .of e1, by rw [a1.len]; omega, fun z => ?_, fun _ p hp => ?_⟩
  · exact q _ ds H (Same.refl H) h1 (g1.mono (Nat.le_add_left _ _) (Nat.le_refl _) (Nat.le_refl _))
  · have sp := same_new hp (.tup (vs ++ vs))
    exact q _ (ds ++ ds) _ sp ⟨p, _, rfl, ne_new hW hp, upd_same, (a1.append a1).same sp⟩ (g1.append g1)
end
/-! ### texts -/
theorem asc_app {x y : Str} (hx : (x.cps.toList.all fun c => decide (c < 128)) = true) (hy : (y.cps.toList.all fun c => decide (c < 128)) = true) : ((x ++ y).cps.toList.all fun c => decide (c < 128)) = true := by
  show ((x.cps ++ y.cps).toList.all fun c => decide (c < 128)) = true
  rw [Array.toList_append, List.all_append, hx, hy]
  rfl
theorem size_app (x y : Str) : (x ++ y).cps.size = x.cps.size + y.cps.size := Array.size_append
theorem asc_cut {x : Str} (lo hi : Option Int) (hx : (x.cps.toList.all fun c => decide (c < 128)) = true) : ((cutS x lo hi).cps.toList.all fun c => decide (c < 128)) = true := by
  unfold cutS
  rw [List.all_eq_true] at hx ⊢
  intro c hc
  exact hx c (List.mem_of_mem_drop (List.mem_of_mem_take (by simpa using hc)))
theorem size_cut (x : Str) (lo hi : Option Int) : (cutS x lo hi).cps.size ≤ x.cps.size := by
  unfold cutS
  rw [List.size_toArray, List.length_take, List.length_drop, Array.length_toList]
  omega
/-- what a changed thing is -/
def spChanged : Sp := fun vs H Q _ => ∃ (W c : Addr) (t : Th) (v : V) (B M D : Nat), vs = [v, .ref W] ∧ WellAt W c H ∧ At (At1 W) H t v ∧ Gd B M D t ∧ B ≤ 100000 ∧ 10 ^ 29 ≤ M ∧
  ∀ v' t' H', SB (At1 W) H H' → WellAt W c H' → At (At1 W) H' t' v' → Gd (2 * B + 40) (M + 1) (D + 3) t' → Q v' H'
theorem _root_.L2.Same.trk {H H' : Hp} (s : Same H H') {a : Addr} (h : Trk H a) : Trk H' a := Trk.same s h
section
variable {P : Program} {w : World} {K : PySem.W.Frag} {mg : Str → Option Value} {base : Heap} {k : Nat}
theorem At.tup2 {W p : Addr} {H : Hp} {a b : Th} {u v : V} (n : p ≠ W) (e : H p = some (.tup [u, v])) (ha : At (At1 W) H a u) (hb : At (At1 W) H b v) : At (At1 W) H (.tup [a, b]) (.ref p) := ⟨p, _, rfl, n, e, .cons ha (.cons hb .nil)⟩
theorem At.tup1 {W p : Addr} {H : Hp} {a : Th} {u : V} (n : p ≠ W) (e : H p = some (.tup [u])) (ha : At (At1 W) H a u) : At (At1 W) H (.tup [a]) (.ref p) := ⟨p, _, rfl, n, e, .cons ha .nil⟩
theorem At.tup0 {W p : Addr} {H : Hp} (n : p ≠ W) (e : H p = some (.tup [])) : At (At1 W) H (.tup []) (.ref p) := ⟨p, _, rfl, n, e, .nil⟩
theorem Gd.weak {B M D B' M' D' : Nat} {t : Th} (g : Gd B M D t) (h : B ≤ B' ∧ M ≤ M' ∧ D ≤ D') : Gd B' M' D' t := g.mono h.1 h.2.1 h.2.2
end
end KL
end
section
set_option maxHeartbeats 1000000
namespace KL
open PySem PySem.Spec PyProof.Rows L2
def spB (n B : Nat) : Nat := (2 * n + 2) * B + 40 + n
theorem spB_succ (n B : Nat) : B + (spB n B + 1 + 0) + B = spB (n + 1) B := by
  unfold spB
  have e : (2 * (n + 1) + 2) * B = (2 * n + 2) * B + B + B := by
    rw [show 2 * (n + 1) + 2 = (2 * n + 2) + 1 + 1 by omega, Nat.add_mul, Nat.add_mul, Nat.one_mul]
  omega
theorem spB_base (n B : Nat) : 2 * B + 40 ≤ spB n B := by
  unfold spB
  have : 2 * B ≤ (2 * n + 2) * B := Nat.mul_le_mul_right _ (by omega)
  omega
theorem nod_two {t : Th} (h : 1 < nod t) : ∃ xs, t = .tup xs := by
  cases t <;> first | exact ⟨_, rfl⟩ | (rw [nod] at h <;> first | omega | (intro xs e; cases e))
def spSpoilt (N : Nat) : Sp := fun vs H Q _ => ∃ (W c : Addr) (t : Th) (v : V) (a : Int) (B M D n : Nat), vs = [v, .int a, .ref W] ∧ n ≤ N ∧ dp t < n ∧ WellAt W c H ∧ At (At1 W) H t v ∧ Gd B M D t ∧ 0 ≤ a ∧ a < (nod t : Int) ∧ B ≤ 100000 ∧ spB n B ≤ 1000000 ∧ 10 ^ 29 ≤ M ∧
  ∀ v' t' H', SB (At1 W) H H' → WellAt W c H' → At (At1 W) H' t' v' → Gd (spB n B) (M + 1) (D + 3) t' → Q v' H'
section
variable {P : Program} {w : World} {K : PySem.W.Frag} {mg : Str → Option Value} {base : Heap} {k : Nat}
end
end KL
end
section
set_option maxHeartbeats 1000000
namespace KL
open PySem PySem.Spec PyProof.Rows L2
abbrev sc_law_moreN : List Str := ["_law_well_here"]
abbrev s_law_more : Stmt := topS 31
theorem sc_law_more : FnScope ["_law_well_here"] ["_law_well_here"] (defScope s_law_more) := ⟨rfl, rfl, rfl, by decide +kernel, rfl, by decide +kernel, by decide +kernel⟩
abbrev sc_law_stepN : List Str := ["_law_well_here", "_law_states", "_law_lack"]
abbrev s_law_step : Stmt := topS 32
theorem sc_law_step : FnScope ["_law_well_here", "_law_states", "_law_lack"] ["_law_well_here", "_law_states", "_law_lack"] (defScope s_law_step) := ⟨rfl, rfl, rfl, by decide +kernel, rfl, by decide +kernel, by decide +kernel⟩
abbrev sc_law_endN : List Str := ["_law_well_here", "_law_lack"]
abbrev s_law_end : Stmt := topS 33
theorem sc_law_end : FnScope ["_law_well_here", "_law_lack"] ["_law_well_here", "_law_lack"] (defScope s_law_end) := ⟨rfl, rfl, rfl, by decide +kernel, rfl, by decide +kernel, by decide +kernel⟩
abbrev sc_law_machineN : List Str := ["_law_well_here", "_law_size", "_law_few", "_law_states", "_law_lack", "_law_dull", "_law_rows", "_law_state", "_law_letter"]
abbrev s_law_machine : Stmt := topS 34
theorem sc_law_machine : FnScope ["_law_well_here", "_law_size", "_law_few", "_law_states", "_law_lack", "_law_dull", "_law_rows", "_law_state", "_law_letter"] ["_law_well_here"] (defScope s_law_machine) := ⟨rfl, rfl, rfl, by decide +kernel, rfl, by decide +kernel, by decide +kernel⟩
def spMore : Sp := fun vs H Q _ => ∃ (W c : Addr), vs = [.ref W] ∧ WellAt W c H ∧ ∀ (r : Int) H', 0 ≤ r → r ≤ 60 → SB (At1 W) H H' → WellAt W c H' → Q (.int r) H'
def spStep : Sp := fun vs H Q _ => ∃ (W c : Addr) (s l : Int), vs = [.ref W, .int s, .int l] ∧ WellAt W c H ∧ 1 ≤ s ∧ s ≤ 30 ∧ ∀ v t H', SB (At1 W) H H' → WellAt W c H' → At (Trk H) H' t v → (Gd 2 60 1 t ∧ stepO s t = true) → Q v H'
def spEnd : Sp := fun vs H Q _ => ∃ (W c : Addr) (l : Int), vs = [.ref W, .int l] ∧ WellAt W c H ∧ ∀ v t H', SB (At1 W) H H' → WellAt W c H' → (∀ Z, At Z H' t v) → (Gd 0 60 0 t ∧ (isNon t || inn 1 60 t) = true) → Q v H'
def spMach : Sp := fun vs H Q _ => ∃ (W c : Addr), vs = [.ref W] ∧ WellAt W c H ∧ ∀ v t H', SB (At1 W) H H' → WellAt W c H' → At (Trk H) H' t v → (Gd 1000 60 5 t ∧ machB t = true) → Q v H'
section
variable {P : Program} {w : World} {K : PySem.W.Frag} {mg : Str → Option Value} {base : Heap} {k : Nat}
theorem ok_law_more (c_law_draw : Cal P w K mg base CX0 k "_law_draw" ["_law_well_here", "_law_many"] spDraw) (d : Def K mg "_law_more" s_law_more ["_law_well_here"]) : Cal P w K mg base CX0 (k + 1) "_law_more" ["_law_well_here"] spMore := by
  refine d.ok sc_law_more (fun vs H Q E h => ?_) (fun f cdv A outer s H vs Q E hr h => ?_)
  · obtain ⟨_, _, rfl, _⟩ := h; rfl
  obtain ⟨W, c, rfl, hw, q⟩ := h
  refine ⟨_, (pss_one (ps_ret (pe_ix ix_list (pe_lst (pa_cons (pe_cal c_law_draw hr (by rfl) (pa_cons (pv 0) (pa_cons pe_int pa_nil))) (pa_cons (pe_cal c_law_draw hr (by rfl) (pa_cons (pv 0) (pa_cons pe_int pa_nil))) (pa_cons (pe_cal c_law_draw hr (by rfl) (pa_cons (pv 0) (pa_cons pe_int pa_nil))) pa_nil)))) (pe_ix ix_list (pe_lst (pa_cons pe_int (pa_cons pe_int (pa_cons pe_int (pa_cons pe_int (pa_cons pe_int pa_nil)))))) (pe_cal c_law_draw hr (by rfl) (pa_cons (pv 0) (pa_cons pe_int pa_nil))) (fun _ _ => rfl)) (fun _ _ => rfl)))), ?_⟩
  refine ⟨_, rfl, W, c, 2, rfl, hw, by decide, by decide, fun r1 H1 a1 b1 s1 w1 => ?_⟩
  refine ⟨_, rfl, W, c, 4, rfl, w1, by decide, by decide, fun r2 H2 a2 b2 s2 w2 => ?_⟩
  refine ⟨_, rfl, W, c, 61, rfl, w2, by decide, by decide, fun r3 H3 a3 b3 s3 w3 => ?_⟩
  refine ⟨(by show 3 ≤ sizeLine; decide), fun p1 n1 => ⟨(by show 5 ≤ sizeLine; decide), fun p2 n2 => ?_⟩⟩
  have z1 := same_new n1 (.lst [.int r1, .int r2, .int r3])
  have z2 := same_new n2 (.lst [.int 0, .int 0, .int 1, .int 1, .int 2])
  have w5 := (w3.same z1).same z2
  refine ⟨_, rfl, W, c, 5, rfl, w5, by decide, by decide, fun r4 H4 a4 b4 s4 w4 => ?_⟩
  obtain ⟨x, ex, i, rfl, i0, i1⟩ := pick (xs := [V.int 0, .int 0, .int 1, .int 1, .int 2]) (fun v => ∃ i : Int, v = V.int i ∧ 0 ≤ i ∧ i < 3) a4 b4
    (List.forall_mem_cons.mpr ⟨⟨0, rfl, by decide, by decide⟩, List.forall_mem_cons.mpr ⟨⟨0, rfl, by decide, by decide⟩, List.forall_mem_cons.mpr ⟨⟨1, rfl, by decide, by decide⟩, List.forall_mem_cons.mpr ⟨⟨1, rfl, by decide, by decide⟩, List.forall_mem_cons.mpr ⟨⟨2, rfl, by decide, by decide⟩, fun _ h => nomatch h⟩⟩⟩⟩⟩)
  obtain ⟨y, ey, j, rfl, j0, j1⟩ := pick (xs := [V.int r1, .int r2, .int r3]) (fun v => ∃ i : Int, v = V.int i ∧ 0 ≤ i ∧ i ≤ 60) i0 i1
    (List.forall_mem_cons.mpr ⟨⟨r1, rfl, a1, by omega⟩, List.forall_mem_cons.mpr ⟨⟨r2, rfl, a2, by omega⟩, List.forall_mem_cons.mpr ⟨⟨r3, rfl, a3, by omega⟩, fun _ h => nomatch h⟩⟩⟩)
  have e2 := s4 p2 _ (ne_new (w3.same z1).trk n2) upd_same
  have e1 := s4 p1 _ (ne_new w3.trk n1) (z2 _ _ upd_same)
  exact ⟨p2, _, r4, _, rfl, rfl, .of e2, ex, p1, _, i, _, rfl, rfl, .of e1, ey, q j H4 j0 j1 ((((s1.trans s2).trans s3).trans (.of (z1.trans z2))).trans s4) w4⟩
theorem ok_law_step (c_law_draw : Cal P w K mg base CX0 k "_law_draw" ["_law_well_here", "_law_many"] spDraw) (c_law_more : Cal P w K mg base CX0 k "_law_more" ["_law_well_here"] spMore) (d : Def K mg "_law_step" s_law_step ["_law_well_here", "_law_states", "_law_lack"]) : Cal P w K mg base CX0 (k + 1) "_law_step" ["_law_well_here", "_law_states", "_law_lack"] spStep := by
  refine d.ok sc_law_step (fun vs H Q E h => ?_) (fun f cdv A outer s H vs Q E hr h => ?_)
  · obtain ⟨_, _, _, _, rfl, _⟩ := h; rfl
  obtain ⟨W, c, st, lk, rfl, hw, st0, st1, q⟩ := h
  refine ⟨_, (pss_cons (ps_if (pt_cmpR op_lt (pe_cal c_law_draw hr (by rfl) (pa_cons (pv 0) (pa_cons pe_int pa_nil))) (pv 2) (nomark _)) (pss_one (ps_ret pe_non)) pss_nil)
      (pss_one (ps_ret (pe_tup (pa_cons (pe_cal c_law_more hr (by rfl) (pa_cons (pv 0) pa_nil)) (pa_cons (pe_cal c_law_draw hr (by rfl) (pa_cons (pv 0) (pa_cons (pv 1) pa_nil))) pa_nil)))))), ?_⟩
  refine ⟨_, rfl, W, c, 6, rfl, hw, by decide, by decide, fun r1 H1 a1 b1 s1 w1 => ?_⟩
  refine ⟨_, rfl, _, _, rfl, rfl, _, rfl, iteB (fun e => ?_) (fun e => ?_)⟩
  · exact q _ .non H1 s1 w1 rfl ⟨(Gd.non (M := 60)).weak ⟨by omega, by omega, by omega⟩, rfl⟩
  refine ⟨_, rfl, W, c, rfl, w1, fun r2 H2 a2 b2 s2 w2 => ?_⟩
  refine ⟨_, rfl, _, rfl, W, c, st, rfl, w2, by omega, by omega, fun r3 H3 a3 b3 s3 w3 => ?_⟩
  refine ⟨(by show 2 ≤ sizeLine; decide), fun p hp => ?_⟩
  have z := same_new hp (.tup [.int r2, .int r3])
  have sA := (s1.trans s2).trans s3
  exact q _ (.tup [.int r2, .int r3]) _ (sA.trans (.of z)) (w3.same z) ⟨p, _, rfl, not_trk sA w3 hp, upd_same, .cons rfl (.cons rfl .nil)⟩ ⟨(Gd.tup (GdL.cons (Gd.int (M := 60) (by omega)) (GdL.cons (Gd.int (by omega)) GdL.nil))).weak ⟨by omega, by omega, by omega⟩, by
    show (inn 0 60 (.int r2) && inn 0 (st - 1) (.int r3)) = true
    rw [inn, inn, decide_eq_true a2, decide_eq_true b2, decide_eq_true a3, decide_eq_true (show r3 ≤ st - 1 by omega)]
    rfl⟩
theorem flag_ix (k : Bool) : 0 ≤ (if k = true then (1 : Int) else 0) ∧ (if k = true then (1 : Int) else 0) < 2 := by cases k <;> decide
theorem ok_law_end (Z : Zs mg) (c_law_draw : Cal P w K mg base CX0 k "_law_draw" ["_law_well_here", "_law_many"] spDraw) (d : Def K mg "_law_end" s_law_end ["_law_well_here", "_law_lack"]) : Cal P w K mg base CX0 (k + 1) "_law_end" ["_law_well_here", "_law_lack"] spEnd := by
  refine d.ok sc_law_end (fun vs H Q E h => ?_) (fun f cdv A outer s H vs Q E hr h => ?_)
  · obtain ⟨_, _, _, rfl, _⟩ := h; rfl
  obtain ⟨W, c, lk, rfl, hw, q⟩ := h
  refine ⟨_, (pss_cons (ps_if (pt_cmpR op_lt (pe_cal c_law_draw hr (by rfl) (pa_cons (pv 0) (pa_cons pe_int pa_nil))) (pv 1) (nomark _)) (pss_one (ps_ret pe_non)) pss_nil)
      (pss_one (ps_ret (pe_ix ix_list (pe_lst (pa_cons (pe_op op_add pe_int (pe_cal c_law_draw hr (by rfl) (pa_cons (pv 0) (pa_cons pe_int pa_nil)))) (pa_cons (pe_op op_add pe_int (pe_cal c_law_draw hr (by rfl) (pa_cons (pv 0) (pa_cons pe_int pa_nil)))) pa_nil))) (pe_callTy (T := "int") call_int1 (by rfl) Z.int (by decide +kernel) (pa_cons (pe_cmpR op_eq (pe_cal c_law_draw hr (by rfl) (pa_cons (pv 0) (pa_cons pe_int pa_nil))) pe_int (nomark _)) pa_nil)) (fun _ _ => rfl))))), ?_⟩
  refine ⟨_, rfl, W, c, 6, rfl, hw, by decide, by decide, fun r1 H1 a1 b1 s1 w1 => ?_⟩
  refine ⟨_, rfl, _, _, rfl, rfl, _, rfl, iteB (fun e => ?_) (fun e => ?_)⟩
  · exact q _ .non H1 s1 w1 (fun _ => rfl) ⟨(Gd.non (M := 60)).weak ⟨by omega, by omega, by omega⟩, rfl⟩
  refine ⟨_, rfl, W, c, 4, rfl, w1, by decide, by decide, fun r2 H2 a2 b2 s2 w2 => ⟨_, _, rfl, rfl, ?_⟩⟩
  refine ⟨_, rfl, W, c, 60, rfl, w2, by decide, by decide, fun r3 H3 a3 b3 s3 w3 => ⟨_, _, rfl, rfl, ?_⟩⟩
  refine ⟨(by show 2 ≤ sizeLine; decide), fun p hp => ?_⟩
  have z := same_new hp (.lst [.int (1 + r2), .int (1 + r3)])
  refine ⟨_, rfl, W, c, 5, rfl, w3.same z, by decide, by decide, fun r4 H4 a4 b4 s4 w4 => ⟨rfl, .inr ⟨_, rfl, ?_⟩⟩⟩
  obtain ⟨f0, f1⟩ := flag_ix (decide (V.int r4 = V.int 0))
  obtain ⟨y, ey, j, rfl, j0, j1⟩ := pick (xs := [V.int (1 + r2), .int (1 + r3)]) (fun v => ∃ i : Int, v = V.int i ∧ 1 ≤ i ∧ i ≤ 60) f0 f1
    (List.forall_mem_cons.mpr ⟨⟨1 + r2, rfl, by omega, by omega⟩, List.forall_mem_cons.mpr ⟨⟨1 + r3, rfl, by omega, by omega⟩, fun _ h => nomatch h⟩⟩)
  exact ⟨p, _, _, _, rfl, rfl, .of (s4 p _ (ne_new w3.trk hp) upd_same), ey, q _ (.int j) H4 ((((s1.trans s2).trans s3).trans (.of z)).trans s4) w4 (fun _ => rfl) ⟨Gd.int (by omega), by rw [inn, decide_eq_true j0, decide_eq_true j1]; rfl⟩⟩
theorem ok_law_machine (Z : Zs mg) (c_law_draw : Cal P w K mg base CX0 k "_law_draw" ["_law_well_here", "_law_many"] spDraw) (c_law_step : Cal P w K mg base CX0 k "_law_step" ["_law_well_here", "_law_states", "_law_lack"] spStep) (c_law_end : Cal P w K mg base CX0 k "_law_end" ["_law_well_here", "_law_lack"] spEnd) (d : Def K mg "_law_machine" s_law_machine ["_law_well_here"]) : Cal P w K mg base CX0 (k + 1) "_law_machine" ["_law_well_here"] spMach := by
  refine d.ok sc_law_machine (fun vs H Q E h => ?_) (fun f cdv A outer s H vs Q E hr h => ?_)
  · obtain ⟨_, _, rfl, _⟩ := h; rfl
  obtain ⟨W, c, rfl, hw, q⟩ := h
  refine ⟨_, (pss_cons (ps_set (i := 1) sc_law_machine.nd rfl (Or.inl rfl) (pe_ix ix_list (pe_lst (pa_cons pe_int (pa_cons pe_int (pa_cons pe_int (pa_cons pe_int (pa_cons (pe_op op_add pe_int (pe_cal c_law_draw hr (by rfl) (pa_cons (pv 0) (pa_cons pe_int pa_nil)))) pa_nil)))))) (pe_cal c_law_draw hr (by rfl) (pa_cons (pv 0) (pa_cons pe_int pa_nil))) (fun _ _ => rfl)))
      (pss_cons (ps_set (i := 2) sc_law_machine.nd rfl (Or.inl rfl) (pe_lst (pa_cons (pe_op op_add pe_int (pe_cal c_law_draw hr (by rfl) (pa_cons (pv 0) (pa_cons pe_int pa_nil)))) (pa_cons (pe_op op_add pe_int (pe_cal c_law_draw hr (by rfl) (pa_cons (pv 0) (pa_cons pe_int pa_nil)))) (pa_cons (pe_op op_sub pe_int (pe_cal c_law_draw hr (by rfl) (pa_cons (pv 0) (pa_cons pe_int pa_nil)))) pa_nil)))))
      (pss_cons (ps_set (i := 3) sc_law_machine.nd rfl (Or.inr rfl) (pe_ix ix_list (pv 2) (pe_ix ix_list (pe_lst (pa_cons pe_int (pa_cons pe_int (pa_cons pe_int (pa_cons pe_int (pa_cons pe_int (pa_cons pe_int (pa_cons pe_int (pa_cons pe_int pa_nil))))))))) (pe_cal c_law_draw hr (by rfl) (pa_cons (pv 0) (pa_cons pe_int pa_nil))) (fun _ _ => rfl)) (fun _ _ => rfl)))
      (pss_cons (ps_set (i := 4) sc_law_machine.nd rfl (Or.inr rfl) (pe_cal c_law_draw hr (by rfl) (pa_cons (pv 0) (pa_cons pe_int pa_nil))))
      (pss_cons (ps_set (i := 5) sc_law_machine.nd rfl (Or.inl rfl) (pe_op op_add pe_int (pe_cal c_law_draw hr (by rfl) (pa_cons (pv 0) (pa_cons pe_int pa_nil)))))
      (pss_cons (ps_set (i := 6) sc_law_machine.nd rfl (Or.inl rfl) (pe_lst pa_nil))
      (pss_cons (ps_for PassesOwn.never rfl (pi_range1 (by rfl) Z.range (pa_cons (pv 3) pa_nil)) (pg_name (i := 7) sc_law_machine.nd rfl (Or.inl rfl)) (pss_one (ps_expr (pe_bm PySem.F.plainAttrs_list PySem.F.slot_list_append PySem.F.type_list_append mt_append (pv 6) (pa_cons (pe_tup (pa_cons (pe_cal c_law_end hr (by rfl) (pa_cons (pv 0) (pa_cons (pv 5) pa_nil))) (pa_cons (pe_callTy (T := "tuple") call_tuple_of (by rfl) Z.tuple (by decide +kernel) (pa_cons (pe_lc (own := [("_law_letter", 8)]) (g := gName 8) (tt := tYes) rfl sc_law_machine.nd (pi_range1 (by rfl) Z.range (pa_cons (pv 1) pa_nil)) (blkOk_by (N := ["_law_well_here", "_law_size", "_law_few", "_law_states", "_law_lack", "_law_dull", "_law_rows", "_law_state", "_law_letter"]) (sc := defScope s_law_machine) (by decide +kernel)) (fun _ _ _ _ _ => (pg_name (i := 8) sc_law_machine.nd rfl (Or.inl rfl))) (fun _ _ _ _ _ => pts_nil) (fun _ _ _ _ _ => (pe_cal c_law_step hr (by rfl) (pa_cons (pv 0) (pa_cons (pv 3) (pa_cons (pv 4) pa_nil)))))) pa_nil)) pa_nil))) pa_nil)))))
      (pss_one (ps_ret (pe_tup (pa_cons (pv 1) (pa_cons (pe_callTy (T := "tuple") call_tuple_of (by rfl) Z.tuple (by decide +kernel) (pa_cons (pv 6) pa_nil)) pa_nil)))))))))))), ?_⟩
  -- size
  refine ⟨_, rfl, W, c, 8, rfl, hw, by decide, by decide, fun r1 H1 a1 b1 s1 w1 => ⟨_, _, rfl, rfl, (by show 5 ≤ sizeLine; decide), fun p1 n1 => ?_⟩⟩
  have z1 := same_new n1 (.lst [.int 1, .int 2, .int 2, .int 3, .int (1 + r1)])
  refine ⟨_, rfl, W, c, 5, rfl, w1.same z1, by decide, by decide, fun r2 H2 a2 b2 s2 w2 => ?_⟩
  obtain ⟨x, ex, sz, rfl, sz0, sz1⟩ := pick (xs := [V.int 1, .int 2, .int 2, .int 3, .int (1 + r1)]) (fun v => ∃ i : Int, v = V.int i ∧ 1 ≤ i ∧ i ≤ 8) a2 b2
    (List.forall_mem_cons.mpr ⟨⟨1, rfl, by decide, by decide⟩, List.forall_mem_cons.mpr ⟨⟨2, rfl, by decide, by decide⟩, List.forall_mem_cons.mpr ⟨⟨2, rfl, by decide, by decide⟩, List.forall_mem_cons.mpr ⟨⟨3, rfl, by decide, by decide⟩, List.forall_mem_cons.mpr ⟨⟨1 + r1, rfl, by omega, by omega⟩, fun _ h => nomatch h⟩⟩⟩⟩⟩)
  refine ⟨p1, _, r2, _, rfl, rfl, .of (s2 p1 _ (ne_new w1.trk n1) upd_same), ex, ?_⟩
  have t2 := (s1.trans (.of z1)).trans s2
  -- few
  refine ⟨_, rfl, W, c, 3, rfl, w2, by decide, by decide, fun r3 H3 a3 b3 s3 w3 => ⟨_, _, rfl, rfl, ?_⟩⟩
  refine ⟨_, rfl, W, c, 7, rfl, w3, by decide, by decide, fun r4 H4 a4 b4 s4 w4 => ⟨_, _, rfl, rfl, ?_⟩⟩
  refine ⟨_, rfl, W, c, 3, rfl, w4, by decide, by decide, fun r5 H5 a5 b5 s5 w5 => ⟨_, _, rfl, rfl, (by show 3 ≤ sizeLine; decide), fun p2 n2 => ?_⟩⟩
  have z2 := same_new n2 (.lst [.int (1 + r3), .int (1 + r4), .int (30 - r5)])
  have t5 := (((t2.trans s3).trans s4).trans s5).trans (.of z2)
  have w6 := w5.same z2
  -- states
  refine ⟨_, rfl, (by show 8 ≤ sizeLine; decide), fun p3 n3 => ?_⟩
  have z3 := same_new n3 (.lst [.int 0, .int 0, .int 0, .int 1, .int 1, .int 1, .int 1, .int 2])
  refine ⟨_, rfl, W, c, 8, rfl, w6.same z3, by decide, by decide, fun r6 H6 a6 b6 s6 w7 => ?_⟩
  obtain ⟨x, ex, i, rfl, i0, i1⟩ := pick (xs := [V.int 0, .int 0, .int 0, .int 1, .int 1, .int 1, .int 1, .int 2]) (fun v => ∃ i : Int, v = V.int i ∧ 0 ≤ i ∧ i < 3) a6 b6
    (List.forall_mem_cons.mpr ⟨⟨0, rfl, by decide, by decide⟩, List.forall_mem_cons.mpr ⟨⟨0, rfl, by decide, by decide⟩, List.forall_mem_cons.mpr ⟨⟨0, rfl, by decide, by decide⟩, List.forall_mem_cons.mpr ⟨⟨1, rfl, by decide, by decide⟩, List.forall_mem_cons.mpr ⟨⟨1, rfl, by decide, by decide⟩, List.forall_mem_cons.mpr ⟨⟨1, rfl, by decide, by decide⟩, List.forall_mem_cons.mpr ⟨⟨1, rfl, by decide, by decide⟩, List.forall_mem_cons.mpr ⟨⟨2, rfl, by decide, by decide⟩, fun _ h => nomatch h⟩⟩⟩⟩⟩⟩⟩⟩)
  obtain ⟨y, ey, st, rfl, st0, st1⟩ := pick (xs := [V.int (1 + r3), .int (1 + r4), .int (30 - r5)]) (fun v => ∃ i : Int, v = V.int i ∧ 1 ≤ i ∧ i ≤ 30) i0 i1
    (List.forall_mem_cons.mpr ⟨⟨1 + r3, rfl, by omega, by omega⟩, List.forall_mem_cons.mpr ⟨⟨1 + r4, rfl, by omega, by omega⟩, List.forall_mem_cons.mpr ⟨⟨30 - r5, rfl, by omega, by omega⟩, fun _ h => nomatch h⟩⟩⟩)
  refine ⟨p3, _, r6, _, rfl, rfl, .of (s6 p3 _ (ne_new w6.trk n3) upd_same), ex, p2, _, i, _, rfl, rfl, .of (s6 p2 _ (ne_new w5.trk n2) (z3 _ _ upd_same)), ey, ?_⟩
  have t6 := (t5.trans (.of z3)).trans s6
  -- lack, dull
  refine ⟨_, rfl, W, c, 5, rfl, w7, by decide, by decide, fun lk H7 a7 b7 s7 w8 => ?_⟩
  refine ⟨_, rfl, W, c, 5, rfl, w8, by decide, by decide, fun du H8 a8 b8 s8 w9 => ⟨_, _, rfl, rfl, ?_⟩⟩
  have t8 := (t6.trans s7).trans s8
  -- rows = []
  refine ⟨(by show 0 ≤ sizeLine; decide), fun R nR => ?_⟩
  have nRW := ne_new w9.trk nR
  refine ⟨_, rfl, st, rfl, by omega, by omega, ?_⟩
  refine for_range (lo := 0) (n := st.toNat) (fun j σ' H' => SB (At1 W) H8 H' ∧ WellAt W c H' ∧ ∃ (vs : List V) (ts : List Th) (y7 y8 : Option V), σ' = [some (.ref W), some (.int sz), some (.ref p2), some (.int st), some (.int lk), some (.int (1 + du)), some (.ref R), y7, y8] ∧ H' R = some (.lst vs) ∧ AtAll (fun a => a = R ∨ Trk H8 a) H' ts vs ∧ ts.length = j ∧ ∀ t ∈ ts, Gd 26 60 3 t ∧ rowB sz st t = true)
    ⟨.new nR _, w9.new w9 nR _, [], [], none, none, rfl, upd_same, .nil, rfl, fun t h => nomatch h⟩ (fun j σ' H' hj hh => ?_) (fun σ' H' hh => ?_)
  · obtain ⟨sA, wA, vs, ts, y7, y8, rfl, eR, aR, lR, gR⟩ := hh
    -- rows.append((end, tuple([step ..])))
    refine ⟨_, rfl, .inl ⟨rfl, _, .inl (.inl eR)⟩, ?_⟩
    refine ⟨_, rfl, _, rfl, W, c, 1 + du, rfl, wA, fun ve te HB sB wB aE gE => ?_⟩
    refine ⟨_, rfl, sz, rfl, by omega, by omega, ?_⟩
    refine lc_new (W := W) (c := c) (G := fun t => Gd 2 60 1 t ∧ stepO st t = true) wB (by omega) (fun _ => rfl) (fun j3 H3 hj3 s3' w3' RR hRR => ?_) (fun Dl HC us xs sC wC nC eC aC lC gC => ?_)
    · exact ⟨_, rfl, _, rfl, _, rfl, W, c, st, lk, rfl, w3', st0, st1, fun v t H' s' w' a g => hRR v t H' s' w' a g⟩
    have zz : ∀ a, (a = R ∨ Trk H8 a) → Trk HB a := fun a h => by
      rcases h with rfl | h
      · exact .of (sB _ _ nRW eR)
      · exact .well (sA.trans sB) wB h
    refine ⟨Dl, us, rfl, .inl ⟨.of eC, fun p4 n4 => ?_⟩⟩
    have z4 := same_new n4 (.tup us)
    refine ⟨(by show 2 ≤ sizeLine; decide), fun p5 n5 => ?_⟩
    have z5 := same_new n5 (.tup [ve, .ref p4])
    have sAll := (((sA.trans sB).trans sC).trans (.of z4)).trans (.of z5)
    have wAll := (wC.same z4).same z5
    have nn4 : ¬ (p4 = R ∨ Trk H8 p4) := fun h => not_trk sC wC n4 (zz _ h)
    have nn5 : ¬ (p5 = R ∨ Trk H8 p5) := fun h => not_trk (sC.trans (.of z4)) (wC.same z4) n5 (zz _ h)
    have eR2 := z5 _ _ (z4 _ _ (sC _ _ nRW (sB _ _ nRW eR)))
    have aX : AtAll (fun a => a = R ∨ Trk H8 a) (upd (upd HC p4 (.tup us)) p5 (.tup [ve, .ref p4])) xs us := ((aC.less fun a h => .inr (zz a h)).same z4).same z5
    have aE2 : At (fun a => a = R ∨ Trk H8 a) (upd (upd HC p4 (.tup us)) p5 (.tup [ve, .ref p4])) te ve := (((aE _).sb (sC.mono fun b e => .inr (by rw [show b = W from e]; exact w9.trk))).same z4).same z5
    have aRow : At (fun a => a = R ∨ Trk H8 a) (upd (upd HC p4 (.tup us)) p5 (.tup [ve, .ref p4])) (.tup [te, .tup xs]) (.ref p5) := ⟨p5, _, rfl, nn5, upd_same, .cons aE2 (.cons ⟨p4, us, rfl, nn4, z5 _ _ upd_same, aX⟩ .nil)⟩
    have aV : AtAll (fun a => a = R ∨ Trk H8 a) (upd (upd HC p4 (.tup us)) p5 (.tup [ve, .ref p4])) ts vs := (((aR.sb (sB.mono fun b e => .inr (by rw [show b = W from e]; exact w9.trk))).sb (sC.mono fun b e => .inr (by rw [show b = W from e]; exact w9.trk))).same z4).same z5
    have gX : GdL (8 * (2 + 1)) 60 1 xs := GdL.all (fun t m => (gC t m).1) (by omega)
    have gRow : Gd 26 60 3 (.tup [te, .tup xs]) := (Gd.tup (GdL.cons (gE.1.mono (Nat.le_refl _) (Nat.le_refl _) (by omega : 0 ≤ 2)) (GdL.cons (Gd.tup gX) GdL.nil))).weak ⟨by omega, by omega, by omega⟩
    have bRow : rowB sz st (.tup [te, .tup xs]) = true := by
      rw [rowB, gE.2, decide_eq_true (show (xs.length : Int) = sz by omega), List.all_eq_true.mpr (fun t m => (gC t m).2)]
      rfl
    refine ⟨R, vs, _, rfl, rfl, eR2, by rw [aR.len, lR, sizeLine_eq]; omega, ?_⟩
    have sD : SB (fun a => a = R ∨ Trk H8 a) (upd (upd HC p4 (.tup us)) p5 (.tup [ve, .ref p4])) (upd (upd (upd HC p4 (.tup us)) p5 (.tup [ve, .ref p4])) R (.lst (vs ++ [.ref p5]))) := .self (Z := fun a => a = R ∨ Trk H8 a) (.inl rfl) _
    refine ⟨sAll.upd_new nR _, wAll.new w9 nR _, vs ++ [.ref p5], ts ++ [.tup [te, .tup xs]], _, _, rfl, upd_same, (aV.sb sD).append (.cons (aRow.sb sD) .nil), by rw [List.length_append, lR]; rfl, fun u hu => ?_⟩
    rcases List.mem_append.mp hu with hu | hu
    · exact gR u hu
    · rw [List.mem_singleton.mp hu]; exact ⟨gRow, bRow⟩
  · obtain ⟨sA, wA, vs, ts, y7, y8, rfl, eR, aR, lR, gR⟩ := hh
    refine ⟨_, rfl, _, rfl, R, vs, rfl, .inl ⟨.of eR, fun p4 n4 => ?_⟩⟩
    have z4 := same_new n4 (.tup vs)
    refine ⟨(by show 2 ≤ sizeLine; decide), fun p5 n5 => ?_⟩
    have z5 := same_new n5 (.tup [.int sz, .ref p4])
    have sF := t8.trans sA
    have g1 : GdL (30 * (26 + 1)) 60 3 ts := GdL.all (fun t m => (gR t m).1) (by omega)
    have gm : machB (.tup [.int sz, .tup ts]) = true := by
      rw [machB, inn, decide_eq_true sz0, decide_eq_true sz1, decide_eq_true (show 1 ≤ ts.length by omega), decide_eq_true (show ts.length ≤ 30 by omega), List.all_eq_true.mpr (fun t m => by
        rw [show ((ts.length : Nat) : Int) = st by omega]
        exact (gR t m).2)]
      rfl
    refine q _ (.tup [.int sz, .tup ts]) _ ((sF.trans (.of z4)).trans (.of z5)) ((wA.same z4).same z5) ⟨p5, _, rfl, not_trk (sF.trans (.of z4)) (wA.same z4) n5, upd_same, .cons rfl (.cons ⟨p4, vs, rfl, not_trk sF wA n4, z5 _ _ upd_same, ?_⟩ .nil)⟩ ⟨(Gd.tup (GdL.cons ((Gd.int (M := 60) (by omega)).mono (Nat.le_refl _) (Nat.le_refl _) (by omega : 0 ≤ 4)) (GdL.cons (Gd.tup g1) GdL.nil))).weak ⟨by omega, by omega, by omega⟩, gm⟩
    exact ((aR.less fun a t => .inr (.well t8 w9 t)).same z4).same z5
end
end KL
end
section
set_option maxHeartbeats 1000000
namespace KL
open PySem PySem.Spec PyProof.Rows L2
/-! ### machines read -/
def stepsOf : Th → List Th
  | .tup [_, .tup ss] => ss
  | _ => []
def endOf : Th → Th
  | .tup [e, _] => e
  | _ => .non
def stepAt (rows : List Th) (s l : Nat) : Th := ((stepsOf ((rows[s]?).getD .non))[l]?).getD .non
/-- from the state s, with m so far: what all letters take, and the state behind them, none where a step lacks -/
def rdT (rows : List Th) : Nat → Int → List Th → Int × Option Nat
  | s, m, [] => (m, some s)
  | s, m, l :: ls => match stepAt rows s (num l).toNat with
    | .tup [.int d, .int s'] => rdT rows s'.toNat (m + d) ls
    | _ => (m, none)
def lastT (rows : List Th) : Int × Option Nat → Option Int
  | (m, some s) => match endOf ((rows[s]?).getD .non) with
    | .int e => some (m + e)
    | _ => none
  | (_, none) => none
def lenT (rows ls : List Th) : Option Int := lastT rows (rdT rows 0 0 ls)
def optV : Option Int → V
  | some i => .int i
  | none => .non
def optS : Option Nat → V
  | some i => .int (i : Nat)
  | none => .non
structure MOk (z : Int) (rows : List Th) : Prop where
  z1 : 1 ≤ z
  z8 : z ≤ 8
  n1 : 1 ≤ rows.length
  n30 : rows.length ≤ 30
  r : ∀ r ∈ rows, rowB z (rows.length : Int) r = true
theorem machB_ok {t : Th} (h : machB t = true) : ∃ z rows, t = .tup [.int z, .tup rows] ∧ MOk z rows := by
  cases t with
  | tup xs =>
    match xs, h with
    | [a, .tup rows], h =>
      rw [machB, Bool.and_eq_true, Bool.and_eq_true, Bool.and_eq_true, decide_eq_true_eq, decide_eq_true_eq, List.all_eq_true] at h
      obtain ⟨⟨⟨h1, h2⟩, h3⟩, h4⟩ := h
      obtain ⟨z, rfl, z1, z8⟩ := inn_int h1
      exact ⟨z, rows, rfl, z1, z8, h2, h3, h4⟩
  | _ => cases h
theorem MOk.mach {z : Int} {rows : List Th} (m : MOk z rows) : machB (.tup [.int z, .tup rows]) = true := by
  rw [machB, Bool.and_eq_true, Bool.and_eq_true, Bool.and_eq_true, decide_eq_true_eq, decide_eq_true_eq, List.all_eq_true]
  exact ⟨⟨⟨by rw [inn, decide_eq_true m.z1, decide_eq_true m.z8]; rfl, m.n1⟩, m.n30⟩, m.r⟩
/-- what a step is -/
def StepIs (n : Int) (st : Th) : Prop := st = .non ∨ ∃ m s, st = .tup [.int m, .int s] ∧ 0 ≤ m ∧ m ≤ 60 ∧ 0 ≤ s ∧ s < n
theorem stepO_is {n : Int} {st : Th} (h : stepO n st = true) : StepIs n st := by
  cases st with
  | non => exact .inl rfl
  | tup xs =>
    match xs, h with
    | [a, b], h =>
      have h' : (inn 0 60 a && inn 0 (n - 1) b) = true := h
      rw [Bool.and_eq_true] at h'
      obtain ⟨m, rfl, m0, m1⟩ := inn_int h'.1
      obtain ⟨s, rfl, s0, s1⟩ := inn_int h'.2
      exact .inr ⟨m, s, rfl, m0, m1, s0, by omega⟩
  | _ => cases h
theorem StepIs.o {n : Int} {st : Th} (h : StepIs n st) : stepO n st = true := by
  rcases h with rfl | ⟨m, s, rfl, m0, m1, s0, s1⟩
  · rfl
  · show (inn 0 60 (.int m) && inn 0 (n - 1) (.int s)) = true
    rw [inn, inn, decide_eq_true m0, decide_eq_true m1, decide_eq_true s0, decide_eq_true (show s ≤ n - 1 by omega)]
    rfl
theorem rowB_is {z n : Int} {r : Th} (h : rowB z n r = true) : ∃ e ss, r = .tup [e, .tup ss] ∧ (e = .non ∨ ∃ i, e = .int i ∧ 1 ≤ i ∧ i ≤ 60) ∧ (ss.length : Int) = z ∧ ∀ st ∈ ss, StepIs n st := by
  cases r with
  | tup xs =>
    match xs, h with
    | [e, .tup ss], h =>
      rw [rowB, Bool.and_eq_true, Bool.and_eq_true, decide_eq_true_eq, List.all_eq_true] at h
      obtain ⟨⟨h1, h2⟩, h3⟩ := h
      refine ⟨e, ss, rfl, ?_, h2, fun st m => stepO_is (h3 st m)⟩
      rw [Bool.or_eq_true] at h1
      rcases h1 with h1 | h1
      · cases e <;> first | exact .inl rfl | cases h1
      · obtain ⟨i, rfl, i1, i2⟩ := inn_int h1
        exact .inr ⟨i, rfl, i1, i2⟩
  | _ => cases h
theorem rowB_of {z n : Int} {e : Th} {ss : List Th} (h1 : e = .non ∨ ∃ i, e = .int i ∧ 1 ≤ i ∧ i ≤ 60) (h2 : (ss.length : Int) = z) (h3 : ∀ st ∈ ss, StepIs n st) : rowB z n (.tup [e, .tup ss]) = true := by
  rw [rowB, Bool.and_eq_true, Bool.and_eq_true, decide_eq_true_eq, List.all_eq_true]
  refine ⟨⟨?_, h2⟩, fun st m => (h3 st m).o⟩
  rcases h1 with rfl | ⟨i, rfl, i1, i2⟩
  · rfl
  · rw [inn, decide_eq_true i1, decide_eq_true i2]; rfl
theorem MOk.row {z : Int} {rows : List Th} (m : MOk z rows) {s : Nat} (hs : s < rows.length) : ∃ e ss, rows[s]? = some (.tup [e, .tup ss]) ∧ (e = .non ∨ ∃ i, e = .int i ∧ 1 ≤ i ∧ i ≤ 60) ∧ (ss.length : Int) = z ∧ ∀ st ∈ ss, StepIs (rows.length : Int) st := by
  obtain ⟨e, ss, e1, h1, h2, h3⟩ := rowB_is (m.r rows[s] (List.getElem_mem hs))
  exact ⟨e, ss, by rw [List.getElem?_eq_getElem hs, e1], h1, h2, h3⟩
theorem At.mach {Z : Zone} {H : Hp} {z : Int} {rows : List Th} {v : V} (h : At Z H (.tup [.int z, .tup rows]) v) : ∃ p pr us, v = .ref p ∧ H p = some (.tup [.int z, .ref pr]) ∧ H pr = some (.tup us) ∧ AtAll Z H rows us ∧ ¬ Z pr := by
  obtain ⟨p, u, w', rfl, e, h1, h2⟩ := h.pair
  cases h1
  obtain ⟨pr, us, rfl, n, e2, a⟩ := h2
  exact ⟨p, pr, us, rfl, e, e2, a, n⟩
/-- a row as it lies -/
theorem row_at {Z : Zone} {H : Hp} {z : Int} {rows : List Th} {us : List V} {s : Nat} (a : AtAll Z H rows us) (m : MOk z rows) (hs : s < rows.length) :
    ∃ pu ve ps vs e ss, us[s]? = some (.ref pu) ∧ H pu = some (.tup [ve, .ref ps]) ∧ H ps = some (.tup vs) ∧ rows[s]? = some (.tup [e, .tup ss]) ∧ At Z H e ve ∧ ((e = .non ∧ ve = .non) ∨ ∃ i, e = .int i ∧ ve = .int i) ∧ (ss.length : Int) = z ∧ AtAll Z H ss vs ∧ (∀ st ∈ ss, StepIs (rows.length : Int) st) := by
  obtain ⟨e, ss, er, h1, h2, h3⟩ := m.row hs
  obtain ⟨u, eu, hu⟩ := a.at er
  obtain ⟨pu, ve, w', rfl, e1, b1, b2⟩ := hu.pair
  obtain ⟨ps, vs, rfl, _, e2, b3⟩ := b2
  refine ⟨pu, ve, ps, vs, e, ss, eu, e1, e2, er, b1, ?_, h2, b3, h3⟩
  rcases h1 with rfl | ⟨i, rfl, _⟩
  · exact .inl ⟨rfl, b1⟩
  · exact .inr ⟨i, rfl, b1⟩
/-- a step as it lies -/
theorem step_at {Z : Zone} {H : Hp} {rows ss : List Th} {vs : List V} {s l : Nat} {e : Th} {n : Int} (er : rows[s]? = some (.tup [e, .tup ss])) (a : AtAll Z H ss vs) (h : ∀ st ∈ ss, StepIs n st) (hl : l < ss.length) :
    ∃ w, vs[l]? = some w ∧ ((stepAt rows s l = .non ∧ w = .non) ∨ ∃ q m s', stepAt rows s l = .tup [.int m, .int s'] ∧ w = .ref q ∧ H q = some (.tup [.int m, .int s']) ∧ ¬ Z q ∧ 0 ≤ m ∧ m ≤ 60 ∧ 0 ≤ s' ∧ s' < n) := by
  have es : stepAt rows s l = ss[l] := by
    unfold stepAt
    rw [er]
    show ((ss)[l]?).getD .non = ss[l]
    rw [List.getElem?_eq_getElem hl]
    rfl
  obtain ⟨w, ew, hw⟩ := a.at (List.getElem?_eq_getElem hl)
  refine ⟨w, ew, ?_⟩
  rw [es]
  rcases h ss[l] (List.getElem_mem hl) with z | ⟨m, s', z, m0, m1, s0, s1⟩
  · rw [z] at hw ⊢
    exact .inl ⟨rfl, hw⟩
  · rw [z] at hw ⊢
    obtain ⟨q, us, rfl, nq, eq', a1⟩ := hw
    obtain ⟨u1, us1, rfl, r1, a2⟩ := a1
    obtain ⟨u2, us2, rfl, r2, a3⟩ := a2
    cases r1; cases r2
    rw [show us2 = [] from a3] at eq'
    exact .inr ⟨q, m, s', rfl, rfl, eq', nq, m0, m1, s0, s1⟩
theorem atI_n {us : List V} {s : Nat} {v : V} (h : us[s]? = some v) : atI us ((s : Nat) : Int) = some v := atI_nat h
theorem textB_ls {z : Int} {d : Th} (h : textB z d = true) : ∃ ls, d = .tup ls ∧ ∀ l ∈ ls, ∃ i, l = .int i ∧ 0 ≤ i ∧ i < z := by
  cases d with
  | tup ls =>
    rw [textB, List.all_eq_true] at h
    refine ⟨ls, rfl, fun l m => ?_⟩
    obtain ⟨i, rfl, i0, i1⟩ := inn_int (h l m)
    exact ⟨i, rfl, i0, by omega⟩
  | _ => cases h
theorem textB_of {z : Int} {ls : List Th} (h : ∀ l ∈ ls, ∃ i, l = .int i ∧ 0 ≤ i ∧ i < z) : textB z (.tup ls) = true := by
  rw [textB, List.all_eq_true]
  intro l m
  obtain ⟨i, rfl, i0, i1⟩ := h l m
  rw [inn, decide_eq_true i0, decide_eq_true (show i ≤ z - 1 by omega)]
  rfl
abbrev sc_demand_machineN : List Str := ["thing"]
abbrev s_demand_machine : Stmt := topS 16
theorem sc_demand_machine : FnScope ["thing"] ["thing"] (defScope s_demand_machine) := ⟨rfl, rfl, rfl, by decide +kernel, rfl, by decide +kernel, by decide +kernel⟩
def spDemand (C : Addr) : Sp := fun vs H Q E => ∃ Z u e, vs = [u] ∧ At Z H e u ∧ shortT e = true ∧ (machB e = true → ∀ H', Same H H' → Q .non H') ∧ (machB e = false → ∀ H', Same H H' → E (.ref C) none H')
def spLength (CM CT : Addr) : Sp := fun vs H Q E => ∃ Z u v e d, vs = [u, v] ∧ At Z H e u ∧ At Z H d v ∧ shortT e = true ∧ shortT d = true ∧
  (∀ z rows ls, e = .tup [.int z, .tup rows] → MOk z rows → d = .tup ls → textB z d = true → ∀ H', Same H H' → Q (optV (lenT rows ls)) H') ∧ (∀ z rows, e = .tup [.int z, .tup rows] → MOk z rows → textB z d = false → ∀ H', Same H H' → E (.ref CT) none H') ∧ (machB e = false → ∀ H', Same H H' → E (.ref CM) none H')
section
variable {X : Cx} {k : Nat} {x : Str} {ps : List Str} {sp : Sp} {e : Expr} {es : List Expr} {t : TA} {p pos : Pos} {E : XK}
/-- a call of a def that may raise, in a def that lets it out -/
theorem pe_calE (C : Cal X.prog X.w X.K X.mg X.base (L2.CX X.prog X.w) k x ps sp) (hr : Room k X.A) (hg : Gl X x) (tk : Takes X (fun cls d _ H => E cls d H)) (ha : PA X (e :: es) t) (hdb : (x == ("__debug__" : Str)) = false := by decide)
    (he : starEach (e :: es) X.env = (false, eval e X.env) :: starEach es X.env := by rfl) (hpl : (backTo pos (starEach es X.env)).any (·.1) = false := by rfl) :
    PE X (.Call (.Name x p) (e :: es) [] pos) (tCall sp [] E t) :=
  let ⟨_, _, F, m, kp, b⟩ := C.ex
  pe_call F hr hg m kp b .nil (passes_call tk fun _ _ _ _ h => h) ha hdb he hpl
end
section
variable {P : Program} {w : World} {K : PySem.W.Frag} {mg : Str → Option Value} {base : Heap} {k : Nat}
theorem ok_demand_machine {C : Addr} (T : Er K mg "NoMachine" C) (c_is_machine : Cal P w K mg base CX0 k "is_machine" ["thing"] (spTh machB)) (d : Def K mg "demand_machine" s_demand_machine ["thing"]) : Cal P w K mg base (L2.CX P w) (k + 1) "demand_machine" ["thing"] (spDemand C) := by
  refine d.okX sc_demand_machine (fun vs H Q E h => ?_) (fun f cdv A outer s H vs Q E hr h => ?_)
  · obtain ⟨_, _, _, rfl, _⟩ := h; rfl
  obtain ⟨Zn, u, e, rfl, hu, se, q1, q0⟩ := h
  refine ⟨_, (pss_one (ps_if (pt_not (pt_val (pe_cal c_is_machine hr (by rfl) (pa_cons (pv 0) pa_nil)))) (pss_one (ps_raise rfl (takes_of rfl rfl rfl rfl) (pmk_bare PySem.F.excBase_ValueError T.x T.g T.k (raises_own T.b T.t) (by exact rfl)))) pss_nil)), ?_⟩
  refine ⟨u, rfl, Zn, u, e, rfl, hu, se, fun H1 s1 => ⟨_, rfl, iteB (fun e1 => ?_) (fun e1 => ?_)⟩⟩
  · exact q0 (not_true e1) H1 s1
  · exact q1 (not_false' e1) H1 s1
end
end KL
end
section
set_option maxHeartbeats 1000000
namespace KL
open PySem PySem.Spec PyProof.Rows L2
/-! ### the graph of a machine's steps -/
def tgt : Th → Option Nat
  | .tup [_, .int s] => some s.toNat
  | _ => none
def nxr (r : Th) : List Nat := (stepsOf r).filterMap tgt
def nxs (rows : List Th) : List (List Nat) := rows.map nxr
abbrev Rc (rows : List Th) (a b : Nat) : Prop := RS (nxs rows) [a] b
theorem nxs_len (rows : List Th) : (nxs rows).length = rows.length := List.length_map _
theorem nxs_get {rows : List Th} {i : Nat} {r : Th} (h : rows[i]? = some r) : (nxs rows)[i]? = some (nxr r) := by
  unfold nxs; rw [List.getElem?_map, h]; rfl
theorem nxs_getD (rows : List Th) (i : Nat) : ((nxs rows)[i]?).getD [] = nxr ((rows[i]?).getD .non) := by
  unfold nxs
  rw [List.getElem?_map]
  cases rows[i]? <;> rfl
theorem RS.trans1 {ways : List (List Nat)} {ss : List Nat} {b c : Nat} (h : RS ways ss b) (k : RS ways [b] c) : RS ways ss c := by
  induction k with
  | base m => rw [List.mem_singleton.mp m]; exact h
  | step _ m ih => exact .step ih m
theorem RS.more {ways : List (List Nat)} {ss tt : List Nat} {c : Nat} (hs : ∀ s ∈ ss, s ∈ tt) (k : RS ways ss c) : RS ways tt c := by
  induction k with
  | base m => exact .base (hs _ m)
  | step _ m ih => exact .step ih m
theorem RS.from1 {ways : List (List Nat)} {ss : List Nat} {c : Nat} (k : RS ways ss c) : ∃ s ∈ ss, RS ways [s] c := by
  induction k with
  | base m => exact ⟨_, m, .base (List.mem_singleton.mpr rfl)⟩
  | step _ m ih =>
    obtain ⟨s, ms, h⟩ := ih
    exact ⟨s, ms, .step h m⟩
theorem Rc.rfl' (rows : List Th) (a : Nat) : Rc rows a a := .base (List.mem_singleton.mpr rfl)
theorem Rc.head {rows : List Th} {a t b : Nat} (h : t ∈ ((nxs rows)[a]?).getD []) (k : Rc rows t b) : Rc rows a b := RS.trans1 (.step (Rc.rfl' rows a) h) k
theorem RS.back {ways bs : List (List Nat)} (hb : ∀ i t : Nat, t ∈ (bs[i]?).getD [] ↔ i ∈ (ways[t]?).getD []) {a b : Nat} (h : RS ways [a] b) : RS bs [b] a := by
  induction h with
  | base m => rw [List.mem_singleton.mp m]; exact .base (List.mem_singleton.mpr rfl)
  | step _ m ih => exact RS.trans1 (.step (.base (List.mem_singleton.mpr rfl)) ((hb _ _).mpr m)) ih
theorem RS.ends {ways bs : List (List Nat)} (hb : ∀ i t : Nat, t ∈ (bs[i]?).getD [] ↔ i ∈ (ways[t]?).getD []) (es : List Nat) (i : Nat) : RS bs es i ↔ ∃ e ∈ es, RS ways [i] e := by
  constructor
  · intro h
    obtain ⟨e, me, h⟩ := RS.from1 h
    exact ⟨e, me, RS.back (ways := bs) (bs := ways) (fun i t => (hb t i).symm) h⟩
  · rintro ⟨e, me, h⟩
    exact RS.more (fun s m => by rw [List.mem_singleton.mp m]; exact me) (RS.back hb h)
theorem tgt_lt {n : Int} {st : Th} {t : Nat} (h : StepIs n st) (e : tgt st = some t) : (t : Int) < n := by
  rcases h with rfl | ⟨m, s, rfl, m0, m1, s0, s1⟩
  · cases e
  · have e' : s.toNat = t := Option.some.inj e
    omega
theorem MOk.nx_lt {z : Int} {rows : List Th} (ok : MOk z rows) : ∀ (i : Nat) (ws : List Nat), (nxs rows)[i]? = some ws → ∀ t ∈ ws, t < (nxs rows).length := by
  intro i ws h t m
  rw [nxs_len]
  have hi : i < rows.length := by
    have := (List.getElem?_eq_some_iff.mp h).1
    rwa [nxs_len] at this
  obtain ⟨e, ss, er, h1, h2, h3⟩ := ok.row hi
  rw [nxs_get er] at h
  cases h
  obtain ⟨st, ms, et⟩ := List.mem_filterMap.mp m
  have := tgt_lt (h3 st ms) et
  omega
theorem MOk.rc_lt {z : Int} {rows : List Th} (ok : MOk z rows) {a b : Nat} (ha : a < rows.length) (h : Rc rows a b) : b < rows.length := by
  have := RS.lt ok.nx_lt (fun s m => by rw [List.mem_singleton.mp m, nxs_len]; exact ha) h
  rwa [nxs_len] at this
def isEnd (rows : List Th) (s : Nat) : Prop := endOf ((rows[s]?).getD .non) ≠ .non
def lvE (rows : List Th) (s : Nat) : Prop := ∃ e, Rc rows s e ∧ isEnd rows e
def lv (rows : List Th) (s : Nat) : Prop := Rc rows 0 s ∧ lvE rows s
noncomputable def keepB (rows : List Th) (s : Nat) : Bool := @decide (lv rows s) (Classical.propDecidable _)
theorem keepB_iff {rows : List Th} {s : Nat} : keepB rows s = true ↔ lv rows s := by
  unfold keepB; exact @decide_eq_true_iff (lv rows s) (Classical.propDecidable _)
noncomputable def lvEB (rows : List Th) (s : Nat) : Bool := @decide (lvE rows s) (Classical.propDecidable _)
theorem lvEB_iff {rows : List Th} {s : Nat} : lvEB rows s = true ↔ lvE rows s := by
  unfold lvEB; exact @decide_eq_true_iff (lvE rows s) (Classical.propDecidable _)
noncomputable def keep (rows : List Th) : List Nat := (List.range rows.length).filter (keepB rows)
theorem mem_keep {rows : List Th} {s : Nat} : s ∈ keep rows ↔ s < rows.length ∧ lv rows s := by
  unfold keep
  rw [List.mem_filter, List.mem_range, keepB_iff]
theorem keep_nodup (rows : List Th) : (keep rows).Nodup := List.Pairwise.filter _ List.nodup_range
theorem keep_len (rows : List Th) : (keep rows).length ≤ rows.length := by
  have := List.length_filter_le (keepB rows) (List.range rows.length)
  rwa [List.length_range] at this
theorem isEnd_lvE {rows : List Th} {s : Nat} (h : isEnd rows s) : lvE rows s := ⟨s, Rc.rfl' rows s, h⟩
theorem lvE_head {rows : List Th} {a t : Nat} (h : t ∈ ((nxs rows)[a]?).getD []) (k : lvE rows t) : lvE rows a := by
  obtain ⟨e, r, he⟩ := k
  exact ⟨e, Rc.head h r, he⟩
theorem lvE_of {rows : List Th} {a t : Nat} (h : Rc rows a t) (k : lvE rows t) : lvE rows a := by
  obtain ⟨e, r, he⟩ := k
  exact ⟨e, RS.trans1 h r, he⟩
theorem keep_zero {rows : List Th} (n1 : 1 ≤ rows.length) (h : lvE rows 0) : 0 ∈ keep rows := mem_keep.mpr ⟨n1, Rc.rfl' rows 0, h⟩
theorem keep_ne {rows : List Th} (n1 : 1 ≤ rows.length) (h : keep rows ≠ []) : lvE rows 0 := by
  obtain ⟨s, hs⟩ := List.exists_mem_of_ne_nil _ h
  obtain ⟨_, r, e⟩ := mem_keep.mp hs
  exact lvE_of r e
theorem keep_first {rows : List Th} (n1 : 1 ≤ rows.length) (h : lvE rows 0) : (keep rows)[0]? = some 0 := by
  obtain ⟨n, hn⟩ : ∃ n, rows.length = n + 1 := ⟨rows.length - 1, by omega⟩
  unfold keep
  rw [hn, List.range_succ_eq_map, List.filter_cons, if_pos (keepB_iff.mpr ⟨Rc.rfl' rows 0, h⟩)]
  rfl
/-! ### the machine with its live states alone -/
def renS (ks : List Nat) : Th → Th
  | .tup [m, .int s] => if s.toNat ∈ ks then .tup [m, .int (ks.idxOf s.toNat : Nat)] else .non
  | _ => .non
def renT (ks : List Nat) (r : Th) : Th := .tup [endOf r, .tup ((stepsOf r).map (renS ks))]
def bareRow (z : Int) : Th := .tup [.non, .tup (List.replicate z.toNat .non)]
noncomputable def trimL (z : Int) (rows : List Th) : List Th := if keep rows = [] then [bareRow z] else (keep rows).map fun s => renT (keep rows) ((rows[s]?).getD .non)
noncomputable def trimT (z : Int) (rows : List Th) : Th := .tup [.int z, .tup (trimL z rows)]
theorem renS_is {n k : Nat} {ks : List Nat} {st : Th} (hk : ks.length = k) (h : StepIs (n : Int) st) : StepIs (k : Int) (renS ks st) := by
  rcases h with rfl | ⟨m, s, rfl, m0, m1, s0, s1⟩
  · exact .inl rfl
  · show StepIs (k : Int) (if s.toNat ∈ ks then .tup [.int m, .int (ks.idxOf s.toNat : Nat)] else .non)
    by_cases hm : s.toNat ∈ ks
    · rw [if_pos hm]
      refine .inr ⟨m, _, rfl, m0, m1, by omega, ?_⟩
      have := List.idxOf_lt_length_of_mem hm
      omega
    · rw [if_neg hm]; exact .inl rfl
theorem bare_ok {z : Int} (z1 : 1 ≤ z) (z8 : z ≤ 8) : MOk z [bareRow z] where
  z1 := z1
  z8 := z8
  n1 := Nat.le_refl _
  n30 := (by decide : 1 ≤ 30)
  r := fun r m => by
    rw [List.mem_singleton.mp m]
    exact rowB_of (.inl rfl) (by rw [List.length_replicate]; omega) fun st ms => .inl (List.eq_of_mem_replicate ms)
theorem trimL_ok {z : Int} {rows : List Th} (ok : MOk z rows) : MOk z (trimL z rows) := by
  unfold trimL
  by_cases h : keep rows = []
  · rw [if_pos h]; exact bare_ok ok.z1 ok.z8
  · rw [if_neg h]
    refine ⟨ok.z1, ok.z8, ?_, ?_, fun r m => ?_⟩
    · rw [List.length_map]
      exact List.length_pos_iff.mpr h
    · rw [List.length_map]
      have := keep_len rows
      have := ok.n30
      omega
    · obtain ⟨s, ms, rfl⟩ := List.mem_map.mp m
      obtain ⟨e, ss, er, h1, h2, h3⟩ := ok.row (mem_keep.mp ms).1
      rw [er]
      rw [List.length_map]
      exact rowB_of h1 (by show ((ss.map _).length : Int) = z; rw [List.length_map]; exact h2) fun st mst => by
        obtain ⟨x, mx, rfl⟩ := List.mem_map.mp mst
        exact renS_is rfl (h3 x mx)
theorem trimL_get {z : Int} {rows : List Th} (h : keep rows ≠ []) {j s : Nat} (e : (keep rows)[j]? = some s) : (trimL z rows)[j]? = some (renT (keep rows) ((rows[s]?).getD .non)) := by
  unfold trimL
  rw [if_neg h, List.getElem?_map, e]
  rfl
theorem ne_of_get {rows : List Th} {j s : Nat} (e : (keep rows)[j]? = some s) : keep rows ≠ [] := fun h => by rw [h] at e; cases e
theorem step_trim {z : Int} {rows : List Th} {j s : Nat} (e : (keep rows)[j]? = some s) (l : Nat) : stepAt (trimL z rows) j l = renS (keep rows) (stepAt rows s l) := by
  unfold stepAt
  rw [trimL_get (ne_of_get e) e]
  show (((stepsOf ((rows[s]?).getD .non)).map (renS (keep rows)))[l]?).getD .non = _
  rw [List.getElem?_map]
  cases (stepsOf ((rows[s]?).getD .non))[l]? <;> rfl
theorem end_trim {z : Int} {rows : List Th} {j s : Nat} (e : (keep rows)[j]? = some s) : endOf (((trimL z rows)[j]?).getD .non) = endOf ((rows[s]?).getD .non) := by
  rw [trimL_get (ne_of_get e) e]
  rfl
theorem step_nx {rows : List Th} {s l : Nat} {m s' : Int} (h : stepAt rows s l = .tup [.int m, .int s']) : s'.toNat ∈ ((nxs rows)[s]?).getD [] := by
  rw [nxs_getD]
  unfold stepAt at h
  cases e : (stepsOf ((rows[s]?).getD .non))[l]? with
  | none => rw [e] at h; cases h
  | some x =>
    rw [e] at h
    have h' : x = .tup [.int m, .int s'] := h
    subst h'
    exact List.mem_filterMap.mpr ⟨_, List.mem_of_getElem? e, rfl⟩
theorem nx_step {z : Int} {rows : List Th} (ok : MOk z rows) {s t : Nat} (h : t ∈ ((nxs rows)[s]?).getD []) : ∃ (l : Nat) (m : Int), (l : Int) < z ∧ stepAt rows s l = .tup [.int m, .int (t : Int)] := by
  rw [nxs_getD] at h
  obtain ⟨st, ms, et⟩ := List.mem_filterMap.mp h
  obtain ⟨l, el⟩ := List.mem_iff_getElem?.mp ms
  cases hs : rows[s]? with
  | none => rw [hs] at ms; cases ms
  | some r =>
    have hlt := (List.getElem?_eq_some_iff.mp hs).1
    obtain ⟨e, ss, er, h1, h2, h3⟩ := ok.row hlt
    rw [er] at el ms
    have ms' : st ∈ ss := ms
    have el' : ss[l]? = some st := el
    rcases h3 st ms' with rfl | ⟨m, s', rfl, m0, m1, s0, s1⟩
    · cases et
    · have e1 : s'.toNat = t := Option.some.inj et
      have l1 := (List.getElem?_eq_some_iff.mp el').1
      refine ⟨l, m, by omega, ?_⟩
      unfold stepAt
      rw [er]
      show ((ss)[l]?).getD .non = _
      rw [el', show (t : Int) = s' by omega]
      rfl
theorem stepAt_is {z : Int} {rows : List Th} (ok : MOk z rows) (s l : Nat) : StepIs (rows.length : Int) (stepAt rows s l) := by
  unfold stepAt
  cases hs : rows[s]? with
  | none => exact .inl rfl
  | some r =>
    have hlt := (List.getElem?_eq_some_iff.mp hs).1
    obtain ⟨e, ss, er, h1, h2, h3⟩ := ok.row hlt
    rw [hs] at er
    cases er
    show StepIs _ (((ss)[l]?).getD .non)
    cases hl : ss[l]? with
    | none => exact .inl rfl
    | some st => exact h3 st (List.mem_of_getElem? hl)
/-- from a state from which no text ends -/
theorem read_dead {z : Int} {rows : List Th} (ok : MOk z rows) : ∀ (ls : List Th) (s : Nat) (m : Int), ¬ lvE rows s → lastT rows (rdT rows s m ls) = none
  | [], s, m, h => by
    rw [rdT, lastT]
    have he : endOf ((rows[s]?).getD .non) = .non := Classical.byContradiction fun e => h (isEnd_lvE e)
    rw [he]
  | l :: ls, s, m, h => by
    rw [rdT]
    rcases stepAt_is ok s (num l).toNat with e | ⟨d, s', e, _, _, _, _⟩
    · rw [e]; rfl
    · rw [e]
      exact read_dead ok ls _ _ fun k => h (lvE_head (step_nx e) k)
theorem read_trim {z : Int} {rows : List Th} (ok : MOk z rows) : ∀ (ls : List Th) (s j : Nat) (m : Int), (keep rows)[j]? = some s → lastT rows (rdT rows s m ls) = lastT (trimL z rows) (rdT (trimL z rows) j m ls)
  | [], s, j, m, h => by rw [rdT, rdT, lastT, lastT, end_trim h]
  | l :: ls, s, j, m, h => by
    rw [rdT, rdT, step_trim h]
    rcases stepAt_is ok s (num l).toNat with e | ⟨d, s', e, _, _, _, s1⟩
    · rw [e]; rfl
    · rw [e, renS]
      by_cases hm : s'.toNat ∈ keep rows
      · rw [if_pos hm]
        have hj : (keep rows)[(keep rows).idxOf s'.toNat]? = some s'.toNat := by
          have hl := List.idxOf_lt_length_of_mem hm
          rw [List.getElem?_eq_getElem hl, List.getElem_idxOf]
        have ih := read_trim ok ls s'.toNat _ (m + d) hj
        rw [ih]
        rfl
      · rw [if_neg hm]
        show lastT rows (rdT rows s'.toNat (m + d) ls) = none
        refine read_dead ok ls _ _ fun k => hm (mem_keep.mpr ⟨by omega, ?_, k⟩)
        have := (mem_keep.mp (List.mem_of_getElem? h)).2.1
        exact .step this (step_nx e)
theorem bare_step (z : Int) (l : Nat) : stepAt [bareRow z] 0 l = .non := by
  show ((List.replicate z.toNat Th.non)[l]?).getD .non = .non
  rw [List.getElem?_replicate]
  split <;> rfl
theorem len_trim {z : Int} {rows : List Th} (ok : MOk z rows) (ls : List Th) : lenT rows ls = lenT (trimL z rows) ls := by
  unfold lenT
  by_cases h : keep rows = []
  · have hd : ¬ lvE rows 0 := fun k => by
      have := keep_zero ok.n1 k
      rw [h] at this
      cases this
    rw [read_dead ok ls 0 0 hd]
    unfold trimL
    rw [if_pos h]
    cases ls with
    | nil => rfl
    | cons l ls => rw [rdT, bare_step]; rfl
  · exact read_trim ok ls 0 0 0 (keep_first ok.n1 (keep_ne ok.n1 h))
/-! trimmed twice -/
theorem keep_idx {rows : List Th} {j s : Nat} (e : (keep rows)[j]? = some s) : (keep rows).idxOf s = j := by
  have hj := (List.getElem?_eq_some_iff.mp e)
  obtain ⟨hl, e2⟩ := hj
  rw [← e2]
  exact (keep_nodup rows).idxOf_getElem j hl
theorem rc_trim {z : Int} {rows : List Th} (ok : MOk z rows) {a b : Nat} (ha : a ∈ keep rows) (h : Rc rows a b) (hb : lvE rows b) : b ∈ keep rows ∧ Rc (trimL z rows) ((keep rows).idxOf a) ((keep rows).idxOf b) := by
  induction h with
  | base m => rw [List.mem_singleton.mp m]; exact ⟨ha, Rc.rfl' _ _⟩
  | step h0 m ih =>
    rename_i i t
    obtain ⟨mi, ri⟩ := ih (lvE_head m hb)
    have ki := mem_keep.mp mi
    have mt : t ∈ keep rows := mem_keep.mpr ⟨by
      have := ok.rc_lt ki.1 (.step (Rc.rfl' rows i) m)
      exact this, .step ki.2.1 m, hb⟩
    refine ⟨mt, .step ri ?_⟩
    obtain ⟨l, d, _, el⟩ := nx_step ok m
    have ei : (keep rows)[(keep rows).idxOf i]? = some i := by
      have hl := List.idxOf_lt_length_of_mem mi
      rw [List.getElem?_eq_getElem hl, List.getElem_idxOf]
    have e2 := step_trim (z := z) ei l
    rw [el, renS, Int.toNat_natCast, if_pos mt] at e2
    have := step_nx e2
    rwa [Int.toNat_natCast] at this
theorem keep_trim {z : Int} {rows : List Th} (ok : MOk z rows) (h : keep rows ≠ []) : keep (trimL z rows) = List.range (keep rows).length := by
  have hl : (trimL z rows).length = (keep rows).length := by unfold trimL; rw [if_neg h, List.length_map]
  have h0 := keep_first ok.n1 (keep_ne ok.n1 h)
  have m0 := List.mem_of_getElem? h0
  unfold keep
  rw [hl]
  refine List.filter_eq_self.mpr fun j mj => ?_
  rw [List.mem_range] at mj
  have ej := List.getElem?_eq_getElem (l := keep rows) mj
  have ms := List.mem_of_getElem? ej
  obtain ⟨_, r, e, re, he⟩ := mem_keep.mp ms
  have r1 := (rc_trim (z := z) ok m0 r ⟨e, re, he⟩).2
  obtain ⟨me, r2⟩ := rc_trim (z := z) ok ms re (isEnd_lvE he)
  rw [keep_idx h0, keep_idx ej] at r1
  rw [keep_idx ej] at r2
  have ee : (keep rows)[(keep rows).idxOf e]? = some e := by
    have hl := List.idxOf_lt_length_of_mem me
    rw [List.getElem?_eq_getElem hl, List.getElem_idxOf]
  refine keepB_iff.mpr ⟨r1, _, r2, ?_⟩
  unfold isEnd
  rw [end_trim ee]
  exact he
theorem ren_id {k : Nat} {st : Th} (h : StepIs (k : Int) st) : renS (List.range k) st = st := by
  rcases h with rfl | ⟨m, s, rfl, m0, m1, s0, s1⟩
  · rfl
  · have hm : s.toNat ∈ List.range k := List.mem_range.mpr (by omega)
    rw [renS, if_pos hm]
    have e : (List.range k).idxOf s.toNat = s.toNat := by
      have hl : s.toNat < (List.range k).length := by rw [List.length_range]; omega
      have := (List.nodup_range (n := k)).idxOf_getElem s.toNat hl
      rwa [List.getElem_range] at this
    rw [e, show ((s.toNat : Nat) : Int) = s by omega]
theorem trim_trim {z : Int} {rows : List Th} (ok : MOk z rows) : trimL z (trimL z rows) = trimL z rows := by
  by_cases h : keep rows = []
  · have e : trimL z rows = [bareRow z] := by unfold trimL; rw [if_pos h]
    rw [e]
    have hk : keep [bareRow z] = [] := by
      refine List.eq_nil_iff_forall_not_mem.mpr fun s ms => ?_
      obtain ⟨hs, r, x, rx, hx⟩ := mem_keep.mp ms
      have okb := bare_ok ok.z1 ok.z8
      have lx := okb.rc_lt hs rx
      have x0 : x = 0 := by have : x < 1 := lx; omega
      subst x0
      exact hx rfl
    unfold trimL
    rw [if_pos hk]
  · have ok2 := trimL_ok ok
    have hk := keep_trim ok h
    have hl : (trimL z rows).length = (keep rows).length := by unfold trimL; rw [if_neg h, List.length_map]
    have hne : keep (trimL z rows) ≠ [] := by
      rw [hk]
      intro e
      have : (List.range (keep rows).length).length = 0 := by rw [e]; rfl
      rw [List.length_range] at this
      exact h (List.length_eq_zero_iff.mp this)
    rw [show trimL z (trimL z rows) = (keep (trimL z rows)).map fun s => renT (keep (trimL z rows)) (((trimL z rows)[s]?).getD .non) by rw [trimL, if_neg hne], hk]
    refine List.ext_getElem? fun j => ?_
    rw [List.getElem?_map]
    by_cases hj : j < (keep rows).length
    · rw [List.getElem?_range hj]
      show some (renT (List.range (keep rows).length) (((trimL z rows)[j]?).getD .non)) = _
      have hj2 : j < (trimL z rows).length := by rw [hl]; exact hj
      obtain ⟨e, ss, er, h1, h2, h3⟩ := ok2.row hj2
      rw [er]
      show some (Th.tup [e, .tup (ss.map (renS (List.range (keep rows).length)))]) = _
      have : ss.map (renS (List.range (keep rows).length)) = ss := by
        conv => rhs; rw [← List.map_id ss]
        refine List.map_congr_left fun st ms => ?_
        have := h3 st ms
        rw [hl] at this
        exact ren_id this
      rw [this]
    · rw [List.getElem?_eq_none (by rw [List.length_range]; omega), List.getElem?_eq_none (by rw [hl]; omega)]
      rfl
/-! a text through each state -/
theorem rdT_mv (rows : List Th) : ∀ (ls : List Th) (s : Nat) (m m' : Int), (rdT rows s m ls).2 = (rdT rows s m' ls).2
  | [], _, _, _ => rfl
  | l :: ls, s, m, m' => by
    rw [rdT, rdT]
    split
    · exact rdT_mv rows ls _ _ _
    · rfl
def Led (rows : List Th) (a : Nat) (ls : List Th) (b : Nat) : Prop := (rdT rows a 0 ls).2 = some b
theorem Led.nil (rows : List Th) (a : Nat) : Led rows a [] a := rfl
theorem rdT_app (rows : List Th) : ∀ (ls ks : List Th) (s b : Nat) (m : Int), (rdT rows s m ls).2 = some b → ∃ m', rdT rows s m (ls ++ ks) = rdT rows b m' ks
  | [], ks, s, b, m, h => by
    have e : s = b := Option.some.inj h
    subst e
    exact ⟨m, rfl⟩
  | l :: ls, ks, s, b, m, h => by
    rw [List.cons_append, rdT]
    rw [rdT] at h
    split at h
    · next d s' e =>
      exact rdT_app rows ls ks _ b _ h
    · cases h
theorem Led.app {rows : List Th} {a b c : Nat} {ls ks : List Th} (h : Led rows a ls b) (k : Led rows b ks c) : Led rows a (ls ++ ks) c := by
  obtain ⟨m', e⟩ := rdT_app rows ls ks a b 0 h
  unfold Led
  rw [e, rdT_mv rows ks b m' 0]
  exact k
theorem Led.snoc {rows : List Th} {a b l : Nat} {m t : Int} {ls : List Th} (h : Led rows a ls b) (e : stepAt rows b l = .tup [.int m, .int t]) : Led rows a (ls ++ [.int (l : Nat)]) t.toNat := by
  refine Led.app h ?_
  unfold Led
  rw [rdT, show (num (.int (l : Nat))).toNat = l from Int.toNat_natCast l, e]
  rfl
theorem Led.len {z : Int} {rows : List Th} (ok : MOk z rows) {e : Nat} {ls : List Th} (h : Led rows 0 ls e) (he : isEnd rows e) : ∃ i, lenT rows ls = some i := by
  unfold Led at h
  unfold lenT
  generalize rdT rows 0 0 ls = R at h
  obtain ⟨m, so⟩ := R
  have h' : so = some e := h
  subst h'
  have hlt : e < rows.length := by
    by_cases hh : e < rows.length
    · exact hh
    · exact absurd (by rw [List.getElem?_eq_none (by omega)]; rfl) he
  obtain ⟨x, ss, er, h1, h2, h3⟩ := ok.row hlt
  unfold isEnd at he
  rw [er] at he
  rcases h1 with rfl | ⟨i, rfl, _⟩
  · exact absurd rfl he
  · refine ⟨m + i, ?_⟩
    rw [lastT, er]
    rfl
end KL
end
section
set_option maxHeartbeats 1000000
namespace KL
open PySem PySem.Spec PyProof.Rows L2 TL
/-! ### machines as texts -/
def endW : Th → List Nat
  | .int i => numL i.toNat
  | _ => [45]
def stepW : Th → List Nat
  | .tup [.int m, .int s] => numL m.toNat ++ ([58] ++ numL s.toNat)
  | _ => [45]
def rowW (r : Th) : List (List Nat) := endW (endOf r) :: (stepsOf r).map stepW
def rowL (r : Th) : List Nat := joinL [32] (rowW r)
def headL (z : Int) : List Nat := [115, 105, 122, 101, 32] ++ numL z.toNat
def machL (z : Int) (rows : List Th) : List Nat := (headL z ++ [10]) ++ (rows.map fun r => rowL r ++ [10]).flatten
/-! read again, as the program does it -/
def isDg (c : Nat) : Bool := decide (c ∈ ([48, 49, 50, 51, 52, 53, 54, 55, 56, 57] : List Nat))
theorem isDg_iff {c : Nat} : isDg c = true ↔ 48 ≤ c ∧ c ≤ 57 := by
  unfold isDg
  rw [decide_eq_true_eq]
  simp only [List.mem_cons, List.not_mem_nil, or_false]
  omega
def digOk (w : List Nat) : Bool := decide (1 ≤ w.length) && decide (w.length ≤ 2) && w.all isDg
def digR (w : List Nat) : Th := if digOk w = true then .int (NumText.digitsVal w : Nat) else .non
theorem digOk_all {w : List Nat} (h : digOk w = true) : NumText.AllDigits w ∧ 1 ≤ w.length ∧ w.length ≤ 2 := by
  unfold digOk at h
  rw [Bool.and_eq_true, Bool.and_eq_true, decide_eq_true_eq, decide_eq_true_eq, List.all_eq_true] at h
  exact ⟨fun c hc => isDg_iff.mp (h.2 c hc), h.1.1, h.1.2⟩
theorem digR_num {n : Nat} (h : n < 100) : digR (numL n) = .int (n : Nat) := by
  have h1 : digOk (numL n) = true := by
    unfold digOk
    rw [Bool.and_eq_true, Bool.and_eq_true, decide_eq_true_eq, decide_eq_true_eq, List.all_eq_true]
    refine ⟨⟨?_, numL_len (by omega) (by omega)⟩, fun c hc => isDg_iff.mpr (numL_digits n c hc)⟩
    have := numL_ne n
    cases e : numL n with
    | nil => exact absurd e this
    | cons a b => simp
  rw [digR, if_pos h1, numL_val]
def cutC (w : List Nat) : List Nat × List Nat := match par [58] [] w with
  | some (a, b) => (a, b)
  | none => (w, [])
def stepR (w : List Nat) : Th := if w = [45] then .non else .tup [digR (cutC w).1, digR (cutC w).2]
def rowR (w : List Nat) : Th := match spl [32] 0 [] w with
  | e :: ss => .tup [digR e, .tup (ss.map stepR)]
  | [] => .non
def machR (w : List Nat) : Th := match spl [10] 0 [] w with
  | h :: ls => .tup [digR (h.drop 5), .tup (ls.dropLast.map rowR)]
  | [] => .non
theorem digR_minus : digR [45] = .non := by
  rw [digR, if_neg (show ¬ digOk [45] = true by decide)]
theorem numL_ne45 (n : Nat) (l : List Nat) : numL n ++ l ≠ [45] := fun e => by
  have h := numL_ne n
  cases e1 : numL n with
  | nil => exact h e1
  | cons a b =>
    rw [e1] at e
    have ea : a = 45 := by simpa using (List.cons.inj e).1
    have := numL_digits n a (by rw [e1]; exact List.mem_cons_self)
    omega
theorem stepR_W {n : Int} {st : Th} (h : StepIs n st) (hn : n ≤ 100) : stepR (stepW st) = st := by
  rcases h with rfl | ⟨m, s, rfl, m0, m1, s0, s1⟩
  · rfl
  · show stepR (numL m.toNat ++ ([58] ++ numL s.toNat)) = _
    rw [stepR, if_neg (numL_ne45 _ _)]
    have e : cutC (numL m.toNat ++ ([58] ++ numL s.toNat)) = (numL m.toNat, numL s.toNat) := by
      unfold cutC
      rw [show par [58] [] (numL m.toNat ++ ([58] ++ numL s.toNat)) = some ([] ++ numL m.toNat, numL s.toNat) from par_part1 (numL_free (by omega))]
      rfl
    rw [e]
    show Th.tup [digR (numL m.toNat), digR (numL s.toNat)] = _
    rw [digR_num (by omega), digR_num (by omega), show ((m.toNat : Nat) : Int) = m by omega, show ((s.toNat : Nat) : Int) = s by omega]
theorem endR_W {e : Th} (h : e = .non ∨ ∃ i, e = .int i ∧ 1 ≤ i ∧ i ≤ 60) : digR (endW e) = e := by
  rcases h with rfl | ⟨i, rfl, i1, i2⟩
  · exact digR_minus
  · show digR (numL i.toNat) = _
    rw [digR_num (by omega), show ((i.toNat : Nat) : Int) = i by omega]
theorem stepW_signs {n : Int} {st : Th} (h : StepIs n st) : ∀ c ∈ stepW st, c = 45 ∨ (48 ≤ c ∧ c ≤ 58) := fun c hc => by
  rcases h with rfl | ⟨m, s, rfl, m0, m1, s0, s1⟩
  · exact .inl (by simpa using (show c ∈ [45] from hc))
  · have hc : c ∈ numL m.toNat ++ ([58] ++ numL s.toNat) := hc
    rcases List.mem_append.mp hc with q | q
    · have := numL_digits _ c q; omega
    · rcases List.mem_append.mp q with q | q
      · have : c = 58 := by simpa using q
        omega
      · have := numL_digits _ c q; omega
theorem endW_signs (e : Th) : ∀ c ∈ endW e, c = 45 ∨ (48 ≤ c ∧ c ≤ 58) := fun c hc => by
  cases e with
  | int i => have := numL_digits _ c (show c ∈ numL i.toNat from hc); omega
  | _ => exact .inl (by simpa using (show c ∈ [45] from hc))
theorem rowW_signs {z n : Int} {r : Th} (h : rowB z n r = true) : ∀ w ∈ rowW r, ∀ c ∈ w, c = 45 ∨ (48 ≤ c ∧ c ≤ 58) := by
  obtain ⟨e, ss, rfl, h1, h2, h3⟩ := rowB_is h
  intro w hw
  rcases List.mem_cons.mp hw with rfl | hw
  · exact endW_signs _
  · obtain ⟨st, hs, rfl⟩ := List.mem_map.mp hw
    exact stepW_signs (h3 st hs)
theorem map_id' {α : Type} {f : α → α} : ∀ {l : List α}, (∀ x ∈ l, f x = x) → l.map f = l
  | [], _ => rfl
  | x :: l, h => by rw [List.map_cons, h x List.mem_cons_self, map_id' (fun y m => h y (List.mem_cons_of_mem _ m))]
theorem rowR_L {z n : Int} {r : Th} (h : rowB z n r = true) (hn : n ≤ 100) : rowR (rowL r) = r := by
  have hs := rowW_signs h
  obtain ⟨e, ss, rfl, h1, h2, h3⟩ := rowB_is h
  unfold rowR rowL
  rw [spl_join (s := 32) (S := []) (parts := rowW (.tup [e, .tup ss])) (by unfold rowW; exact List.cons_ne_nil _ _) (fun w hw hc => by have := hs w hw 32 hc; omega)]
  show Th.tup [digR (endW e), .tup ((ss.map stepW).map stepR)] = _
  rw [endR_W h1, List.map_map, map_id' (fun st m => by exact stepR_W (h3 st m) hn)]
theorem joinL_mem {S : List Nat} {c : Nat} : ∀ {ps : List (List Nat)}, c ∈ joinL S ps → c ∈ S ∨ ∃ p ∈ ps, c ∈ p
  | [], h => nomatch h
  | [p], h => .inr ⟨p, List.mem_cons_self, h⟩
  | p :: q :: r, h => by
    rcases List.mem_append.mp (show c ∈ p ++ (S ++ joinL S (q :: r)) from h) with h | h
    · exact .inr ⟨p, List.mem_cons_self, h⟩
    · rcases List.mem_append.mp h with h | h
      · exact .inl h
      · rcases joinL_mem h with h | ⟨p', m, h⟩
        · exact .inl h
        · exact .inr ⟨p', List.mem_cons_of_mem _ m, h⟩
theorem rowL_free {z n : Int} {r : Th} (h : rowB z n r = true) : (10 : Nat) ∉ rowL r := fun hc => by
  rcases joinL_mem hc with h1 | ⟨p, m, h1⟩
  · have : (10 : Nat) = 32 := by simpa using h1
    omega
  · have := rowW_signs h p m 10 h1
    omega
theorem headL_free (z : Int) : (10 : Nat) ∉ headL z := fun hc => by
  rcases List.mem_append.mp hc with h | h
  · revert h; decide
  · exact numL_free (by omega) h
theorem spl_rows {z n : Int} : ∀ {rows : List Th}, (∀ r ∈ rows, rowB z n r = true) → spl [10] 0 [] (rows.map fun r => rowL r ++ [10]).flatten = rows.map rowL ++ [[]]
  | [], _ => rfl
  | r :: rows, h => by
    rw [List.map_cons, List.flatten_cons, List.append_assoc, show ([10] : List Nat) ++ (rows.map fun r => rowL r ++ [10]).flatten = ([10] ++ (rows.map fun r => rowL r ++ [10]).flatten) from rfl,
      spl_part1 (s := 10) (S := []) (p := rowL r) (acc := []) (rowL_free (h r List.mem_cons_self)), spl_rows (fun r m => h r (List.mem_cons_of_mem _ m))]
    rfl
theorem spl_mach {z : Int} {rows : List Th} (ok : MOk z rows) : spl [10] 0 [] (machL z rows) = headL z :: (rows.map rowL ++ [[]]) := by
  unfold machL
  rw [List.append_assoc, spl_part1 (s := 10) (S := []) (p := headL z) (acc := []) (headL_free z), spl_rows ok.r]
  rfl
/-- what is read of a machine's text is the machine -/
theorem machR_L {z : Int} {rows : List Th} (ok : MOk z rows) : machR (machL z rows) = .tup [.int z, .tup rows] := by
  have z1 := ok.z1
  have z8 := ok.z8
  have n30 := ok.n30
  unfold machR
  rw [spl_mach ok]
  show Th.tup [digR ((headL z).drop 5), .tup ((rows.map rowL ++ [[]]).dropLast.map rowR)] = _
  rw [List.dropLast_concat, show (headL z).drop 5 = numL z.toNat from rfl, digR_num (by omega), show ((z.toNat : Nat) : Int) = z by omega, List.map_map, map_id' (fun r m => by exact rowR_L (ok.r r m) (by omega))]
theorem machL_inj {z z' : Int} {rows rows' : List Th} (ok : MOk z rows) (ok' : MOk z' rows') (e : machL z rows = machL z' rows') : (Th.tup [.int z, .tup rows]) = .tup [.int z', .tup rows'] := by
  rw [← machR_L ok, e, machR_L ok']
/-! lengths -/
theorem numL_le {n : Nat} (h : n < 100) : (numL n).length ≤ 2 := numL_len (by omega) (by omega)
theorem endW_len {e : Th} (h : e = .non ∨ ∃ i, e = .int i ∧ 1 ≤ i ∧ i ≤ 60) : (endW e).length ≤ 2 := by
  rcases h with rfl | ⟨i, rfl, i1, i2⟩
  · decide
  · exact numL_le (by omega)
theorem stepW_len {n : Int} {st : Th} (h : StepIs n st) (hn : n ≤ 100) : (stepW st).length ≤ 5 := by
  rcases h with rfl | ⟨m, s, rfl, m0, m1, s0, s1⟩
  · show 1 ≤ 5
    omega
  · have a := numL_le (n := m.toNat) (by omega)
    have b := numL_le (n := s.toNat) (by omega)
    show (numL m.toNat ++ ([58] ++ numL s.toNat)).length ≤ 5
    rw [List.length_append, List.length_append, List.length_singleton]
    omega
theorem joinL_len {S : List Nat} {b : Nat} (hS : S.length ≤ 1) : ∀ {ps : List (List Nat)}, (∀ p ∈ ps, p.length ≤ b) → (joinL S ps).length ≤ ps.length * (b + 1)
  | [], _ => Nat.zero_le _
  | [p], h => by
    have := h p List.mem_cons_self
    show p.length ≤ 1 * (b + 1)
    omega
  | p :: q :: r, h => by
    have h1 := h p List.mem_cons_self
    have h2 := joinL_len hS (ps := q :: r) (fun x m => h x (List.mem_cons_of_mem _ m))
    show (p ++ (S ++ joinL S (q :: r))).length ≤ _
    rw [List.length_append, List.length_append, List.length_cons, Nat.add_mul, Nat.one_mul]
    omega
theorem rowL_len {z n : Int} {r : Th} (h : rowB z n r = true) (hz : z ≤ 8) (hn : n ≤ 100) : (rowL r).length ≤ 54 := by
  obtain ⟨e, ss, rfl, h1, h2, h3⟩ := rowB_is h
  have := joinL_len (S := [32]) (b := 5) (by decide) (ps := rowW (.tup [e, .tup ss])) (fun w hw => by
    rcases List.mem_cons.mp hw with rfl | hw
    · have := endW_len h1
      exact Nat.le_trans this (by omega)
    · obtain ⟨st, hs, rfl⟩ := List.mem_map.mp hw
      exact stepW_len (h3 st hs) hn)
  refine Nat.le_trans this ?_
  have l : (rowW (.tup [e, .tup ss])).length = ss.length + 1 := by
    show ((endW e) :: ss.map stepW).length = _
    rw [List.length_cons, List.length_map]
  rw [l]
  omega
theorem rows_len {z n : Int} (hz : z ≤ 8) (hn : n ≤ 100) : ∀ {rows : List Th}, (∀ r ∈ rows, rowB z n r = true) → ((rows.map fun r => rowL r ++ [10]).flatten).length ≤ rows.length * 55
  | [], _ => Nat.zero_le _
  | r :: rows, h => by
    have a := rowL_len (h r List.mem_cons_self) hz hn
    have b := rows_len hz hn (fun r m => h r (List.mem_cons_of_mem _ m))
    rw [List.map_cons, List.flatten_cons, List.length_append, List.length_append, List.length_singleton, List.length_cons, Nat.add_mul]
    omega
theorem headL_len {z : Int} (hz : z ≤ 8) : (headL z).length ≤ 7 := by
  have := numL_le (n := z.toNat) (by omega)
  unfold headL
  rw [List.length_append]
  have : ([115, 105, 122, 101, 32] : List Nat).length = 5 := rfl
  omega
theorem machL_len {z : Int} {rows : List Th} (ok : MOk z rows) : (machL z rows).length ≤ 2000 := by
  have a := rows_len ok.z8 (by have := ok.n30; omega) ok.r
  have b := headL_len ok.z8
  have n30 := ok.n30
  unfold machL
  rw [List.length_append, List.length_append, List.length_singleton]
  omega
theorem par_le (S : List Nat) : ∀ (w acc a b : List Nat), par S acc w = some (a, b) → a.length ≤ acc.length + w.length ∧ b.length ≤ w.length
  | [], acc, a, b, h => by simp [par] at h
  | c :: r, acc, a, b, h => by
    by_cases e : pre S (c :: r) = true
    · rw [par_hit e] at h
      cases h
      exact ⟨by omega, by rw [List.length_drop]; omega⟩
    · rw [par_miss (by simpa using e)] at h
      obtain ⟨h1, h2⟩ := par_le S r _ a b h
      rw [List.length_append, List.length_singleton] at h1
      rw [List.length_cons]
      omega
theorem cutC_le (w : List Nat) : (cutC w).1.length ≤ w.length ∧ (cutC w).2.length ≤ w.length := by
  unfold cutC
  cases e : par [58] [] w with
  | none => exact ⟨Nat.le_refl _, Nat.zero_le _⟩
  | some p =>
    obtain ⟨a, b⟩ := p
    have := par_le [58] w [] a b e
    rw [List.length_nil] at this
    exact ⟨by show a.length ≤ _; omega, this.2⟩
theorem spl_le (S : List Nat) : ∀ (w acc : List Nat), (spl S 0 acc w).length ≤ w.length + 1 ∧ ∀ p ∈ spl S 0 acc w, p.length ≤ acc.length + w.length
  | [], acc => by rw [spl_nil]; exact ⟨by simp, fun p m => by rw [List.mem_singleton.mp m]; simp⟩
  | c :: r, acc => by
    by_cases e : pre S (c :: r) = true
    · rw [spl_hit e, spl_pass]
      obtain ⟨h1, h2⟩ := spl_le S (r.drop (S.length - 1)) []
      rw [List.length_drop] at h1 h2
      refine ⟨by rw [List.length_cons, List.length_cons]; omega, fun p m => ?_⟩
      rcases List.mem_cons.mp m with rfl | m
      · omega
      · have := h2 p m
        rw [List.length_nil] at this
        rw [List.length_cons]; omega
    · rw [spl_miss (by simpa using e)]
      obtain ⟨h1, h2⟩ := spl_le S r (acc ++ [c])
      refine ⟨by rw [List.length_cons]; omega, fun p m => ?_⟩
      have := h2 p m
      rw [List.length_append, List.length_singleton] at this
      rw [List.length_cons]
      omega
termination_by w => w.length
decreasing_by all_goals simp only [List.length_drop, List.length_cons]; omega
theorem spl_ne (S : List Nat) : ∀ (w acc : List Nat), spl S 0 acc w ≠ []
  | [], acc => by rw [spl_nil]; exact List.cons_ne_nil _ _
  | c :: r, acc => by
    by_cases e : pre S (c :: r) = true
    · rw [spl_hit e]; exact List.cons_ne_nil _ _
    · rw [spl_miss (by simpa using e)]
      exact spl_ne S r _
theorem joinL_nil {S : List Nat} (hS : S = []) : ∀ ps : List (List Nat), joinL S ps = ps.flatten
  | [] => rfl
  | [p] => by rw [List.flatten_cons, List.flatten_nil, List.append_nil]; rfl
  | p :: q :: r => by
    rw [List.flatten_cons, ← joinL_nil hS (q :: r), hS]
    rfl
theorem flat_len {b : Nat} : ∀ {ps : List (List Nat)}, (∀ p ∈ ps, p.length ≤ b) → ps.flatten.length ≤ ps.length * b
  | [], _ => Nat.zero_le _
  | p :: ps, h => by
    have h1 := h p List.mem_cons_self
    have h2 := flat_len (ps := ps) fun q m => h q (List.mem_cons_of_mem _ m)
    rw [List.flatten_cons, List.length_append, List.length_cons, Nat.add_mul]
    omega
theorem numL_small {n c : Nat} (h : c ∈ numL n) : c < 128 := by have := numL_digits n c h; omega
theorem machL_small {z : Int} {rows : List Th} (ok : MOk z rows) : ∀ c ∈ machL z rows, c < 128 := fun c hc => by
  unfold machL at hc
  rcases List.mem_append.mp hc with h | h
  · rcases List.mem_append.mp h with h | h
    · rcases List.mem_append.mp h with h | h
      · exact (by decide : ∀ c ∈ ([115, 105, 122, 101, 32] : List Nat), c < 128) c h
      · exact numL_small h
    · have : c = 10 := by simpa using h
      omega
  · obtain ⟨l, hl, h⟩ := List.mem_flatten.mp h
    obtain ⟨r, hr, rfl⟩ := List.mem_map.mp hl
    rcases List.mem_append.mp h with h | h
    · rcases joinL_mem h with h | ⟨p, hp, h⟩
      · have : c = 32 := by simpa using h
        omega
      · have := rowW_signs (ok.r r hr) p hp c h
        omega
    · have : c = 10 := by simpa using h
      omega
/-! whatever is read -/
theorem digR_is (w : List Nat) : digR w = .non ∨ ∃ i : Nat, digR w = .int (i : Nat) := by
  unfold digR
  split
  · exact .inr ⟨_, rfl⟩
  · exact .inl rfl
end KL
end
section
set_option maxHeartbeats 1000000
namespace KL
open PySem PySem.Spec PyProof.Rows L2
/-! ### a, *r = a list -/
def gStar (K : PySem.W.Frag) (t : TGs) : TG := fun v σ H Q => ∃ a x xs, v = .ref a ∧ SqL K H a (x :: xs) ∧ ∀ D, H D = none → t [x, .ref D] σ (upd H D (.lst xs)) Q
section
variable {X : Cx} {pos : Pos}
theorem pgs_star {e : Expr} {p : Pos} {t : TG} (h1 : PG X e t) (hs : (assignEach [.Starred e p] X.env).map (·.2) = [assign e X.env] := by rfl) : PGs X [.Starred e p] (gCons t gNil) := by
  refine ⟨fun pins s σ H vs us Q I r h => ?_⟩
  obtain ⟨v, vr, e1, h⟩ := h
  subst e1
  cases r with
  | cons r rr =>
    rw [hs]
    refine assignInOrder_cons (thn (h1.run pins s σ H _ _ _ I r h) fun _ s1 ⟨σ1, H1, I1, q1⟩ => ?_)
    obtain ⟨e2, q1⟩ := q1
    subst e2
    cases rr
    exact assignInOrder_nil ⟨σ1, H1, I1, q1⟩
theorem pg_star {es : List Expr} {k : Nat} {t : TGs} (hc : X.calm = true) (h : PGs X es t) (hn : (assignEach es X.env).length = 2 := by rfl) (hst : (assignEach es X.env).findIdx? (·.1) = some 1 := by rfl) : PG X (.Tuple es k pos) (gStar X.K t) := by
  refine ⟨fun pins s σ H v u Q I r hw => ?_⟩
  obtain ⟨a, x, xs, e1, hq, hw⟩ := hw
  subst e1
  cases r
  obtain ⟨its, rv, pl, hz⟩ := I.list hq
  cases rv with
  | @cons _ y _ ys ry rys =>
  have hl : s.heap.IsList a (y :: ys).toArray := by
    obtain ⟨o, m, e, c, d, q⟩ := pl
    exact ⟨o, e, c, m, q⟩
  have hh := I.ok.hd hc
  have hlt : a ≠ s.heap.objs.size := by obtain ⟨o, ho, _⟩ := hl; exact Nat.ne_of_lt (Heap.lt_size ho)
  have hsz : (y :: ys).toArray.size ≤ sizeLine := by
    have := hz
    have e2 := (show Vals (x :: xs) (y :: ys) from .cons ry rys).length
    simp only [List.size_toArray, List.length_cons] at *
    omega
  rw [PyProof.Rows.assign_Tuple]
  refine wpAny_bind (wpAny_standAt ?_)
  unfold unpack
  rw [hn, hst]
  refine wpAny_bind (wpAny_holding ?_)
  unfold unpackItems
  refine wpAny_bind ?_
  unfold notIterableAtAll
  refine wpAny_bind (wpAny_specialOf hl.typeIs slot_list_iter.lookup ?_)
  refine wpAny_pure ?_
  simp only [Bool.false_eq_true, if_false]
  refine wpAny_bind (wpAny_holding (wpAny_pyIter_list hl ?_))
  refine wpAny_bind (wpAny_holding (PySem.W.kun_draw hlt 1 0 _ _ ⟨_, Heap.get?_push_size _ rfl, rfl, rfl⟩ (hl.push _) (by simp) fun h₁ hit₁ hs₁ => ?_))
  have hl₁ : h₁.IsList a (y :: ys).toArray := (hl.push _).extBut hs₁.extBut hlt
  rw [Nat.zero_add] at hit₁
  have hit₁' := hit₁
  obtain ⟨oi, hoi, _⟩ := hit₁'
  have hl₁' := hl₁
  obtain ⟨ol, hol, _⟩ := hl₁'
  have e3 : List.take 1 (List.drop 0 (y :: ys).toArray.toList) = [y] := by simp
  rw [e3]
  rw [if_neg (show ¬ ([y].length < 1) by rw [List.length_singleton]; omega)]
  refine wpAny_bind (wpAny_holding (PySem.W.kun_collect (s := { s with heap := h₁ }) (T := "list_iterator") (.inr (.inr (.inl rfl))) (Walks.list (A := X.A.in1) hh s.heap.objs.size a hlt (y :: ys).toArray) (fun j u st => st.1.typeIs) (k := 1) (by simp) ⟨hit₁, hl₁⟩ (Heap.lt_size hoi) (Heap.lt_size hol) (fun h₂ tk hk => ?_) hsz))
  have e4 : List.drop 1 (y :: ys).toArray.toList = ys := by simp
  rw [e4]
  show wpAny _ _ (if ys.length < 2 - 1 - 1 then _ else _) _ _ _
  rw [if_neg (by omega)]
  show wpAny _ _ (newList (ys.take (ys.length - 0)) >>= fun d => pure ([y] ++ [d] ++ ys.drop (ys.length - 0))) _ _ _
  rw [Nat.sub_zero, List.take_length, List.drop_length]
  have he : Heap.ExtBut s.heap.objs.size s.heap h₂ := fun b o hb e => hk b o hb (hs₁.extBut b o hb (Heap.get?_push_of_some _ e))
  have I1 : Inv X pins σ H { s with heap := h₂, toks := tk } := I.kept fun b o e => he b o (Nat.ne_of_lt (Heap.lt_size e)) e
  have lys : ys.length ≤ sizeLine := by simp only [List.size_toArray, List.length_cons] at hsz; omega
  refine wpAny_bind (wpAny_newList ?_ lys)
  refine wpAny_pure ?_
  have hf : H h₂.objs.size = none := I1.hok.fresh (Nat.le_refl _)
  have I2 : Inv X pins σ (upd H h₂.objs.size (.lst xs)) _ := I1.laid (t' := tk) (a := h₂.objs.size) (o := .lst xs) (fun b u e => Heap.get?_push_of_some _ e) (Nat.le_refl _) ⟨by rw [rys.length]; exact lys, ys, 0, rys, Heap.get?_push_size _ rfl⟩
  exact h.run pins _ σ _ [x, .ref h₂.objs.size] _ Q I2 (.cons ry (.cons rfl .nil)) (hw _ hf)
/-- str of a whole number, or of None -/
theorem call_strIN : CallR X (.type "str") (fun xs H Q => (∃ i, xs = [.int i] ∧ i.natAbs.log2 < 1920 ∧ Q (.str (toString i)) H) ∨ (xs = [.non] ∧ Q (.str "None") H)) := by
  intro pins s σ H xs us Q I r h
  rcases h with ⟨i, rfl, hz, q⟩ | ⟨rfl, q⟩
  · obtain ⟨u, rfl, t, rfl⟩ := vals1 r
    exact PySem.P.str_of_int hz ⟨.str _, H, I.tok _, ⟨_, rfl⟩, q⟩
  · obtain ⟨u, rfl, e⟩ := vals1 r
    subst e
    exact PySem.P.str_of_none ⟨.str _, H, I.tok _, ⟨_, rfl⟩, q⟩
end
end KL
end
section
set_option maxHeartbeats 1000000
namespace KL
open PySem PySem.Spec PyProof.Rows L2
abbrev nV (n : Nat) : V := .int (n : Nat)
/-- a list of lists of numbers -/
def LL (H : Hp) (W : Addr) (ways : List (List Nat)) : Prop := ∃ as : List Addr, H W = some (.lst (as.map V.ref)) ∧ as.length = ways.length ∧ ∀ (i : Nat) (a : Addr) (ws : List Nat), as[i]? = some a → ways[i]? = some ws → H a = some (.lst (ws.map nV))
theorem LL.same {H H' : Hp} {W : Addr} {ways : List (List Nat)} (h : LL H W ways) (s : Same H H') : LL H' W ways :=
  let ⟨as, e, l, q⟩ := h
  ⟨as, s _ _ e, l, fun i a ws ha hw => s _ _ (q i a ws ha hw)⟩
def spSpread : Sp := fun vs H Q _ => ∃ (S W : Addr) (starts : List Nat) (ways : List (List Nat)), vs = [.ref S, .ref W] ∧ H S = some (.lst (starts.map nV)) ∧ LL H W ways ∧ ways.length ≤ 1000 ∧ starts.length ≤ 1000 ∧ (∀ s ∈ starts, s < ways.length) ∧ (∀ (i : Nat) (ws : List Nat), ways[i]? = some ws → ∀ t ∈ ws, t < ways.length) ∧
  ∀ (F : Addr) (fl : List Bool) (H' : Hp), Same H H' → H F = none → H' F = some (.lst (fl.map V.bl)) → fl.length = ways.length → (∀ i : Nat, fl[i]? = some true ↔ RS ways starts i) → Q (.ref F) H'
theorem map_get {α β : Type} {f : α → β} {l : List α} {i : Nat} {x : β} (h : (l.map f)[i]? = some x) : ∃ y, l[i]? = some y ∧ x = f y := by
  rw [List.getElem?_map] at h
  obtain ⟨y, e, r⟩ := Option.map_eq_some_iff.mp h
  exact ⟨y, e, r.symm⟩
theorem get_map {α β : Type} {f : α → β} {l : List α} {i : Nat} {y : α} (h : l[i]? = some y) : (l.map f)[i]? = some (f y) := by
  rw [List.getElem?_map, h]; rfl
theorem ixT {n j : Nat} (hj : j < n) : ixN n (j : Int) = some j := by
  unfold ixN
  rw [if_pos (by omega), if_pos (by omega)]
  simp
section
variable {P : Program} {w : World} {K : PySem.W.Frag} {mg : Str → Option Value} {base : Heap} {k : Nat}
end
end KL
end
section
set_option maxHeartbeats 4000000
namespace KL
open PySem PySem.Spec PyProof.Rows L2
/-! ### t * n of any tuple, any small n -/
theorem mul_same (l : Addr) (items : Array Value) (n : Nat) (dd : Option Addr) (sl : Array (Option Value)) (x : Int) (u : Tok) (c0 : (decide (x < -(2 ^ 63)) || decide (x ≥ 2 ^ 63)) = false) (c1 : (items.isEmpty || x == 1) = true) :
    Meets (Builtin.«tuple.__mul__» ⟨[.ref l, .int x u], []⟩) (fun _ R s => s.heap.get? l = some { cls := .type "tuple", dict := dd, data := .seq items n, slots := sl } ∧ R (.ok (.ret (Value.ref l))) s) :=
  .of_wp fun prog w A R s h => by
    obtain ⟨hp, g, d, tk, os⟩ := s
    obtain ⟨hl, h⟩ := h
    have f1 := AutoSeq1.idx_int
    (wp_walk using wpAny_loadPart' hl); skip
    repeat (first
      | (refine wpAny_ite_false (decide_eq_false (by rw [c0]; exact Bool.false_ne_true)) ?_; wp_walk using wpAny_loadPart' hl)
      | (refine wpAny_ite_true (decide_eq_true c1) ?_; wp_walk using wpAny_loadPart' hl)); skip
    exact ⟨_, rfl, h⟩
theorem mul_none (l : Addr) (items : Array Value) (n : Nat) (dd : Option Addr) (sl : Array (Option Value)) (x : Int) (u : Tok) (c0 : (decide (x < -(2 ^ 63)) || decide (x ≥ 2 ^ 63)) = false) (c1 : (items.isEmpty || x == 1) = false) (c2 : (decide (x ≤ 0) || items.isEmpty) = true) :
    Meets (Builtin.«tuple.__mul__» ⟨[.ref l, .int x u], []⟩) (fun _ R s => s.heap.get? l = some { cls := .type "tuple", dict := dd, data := .seq items n, slots := sl } ∧ R (.ok (.ret (Value.ref s.heap.objs.size))) { s with heap := s.heap.push { cls := Value.type "tuple", data := Data.seq #[] }, toks := s.toks }) :=
  .of_wp fun prog w A R s h => by
    obtain ⟨hp, g, d, tk, os⟩ := s
    obtain ⟨hl, h⟩ := h
    have f1 := AutoSeq1.idx_int
    (wp_walk using wpAny_loadPart' hl); skip
    repeat (first
      | (refine wpAny_ite_false (decide_eq_false (by rw [c0]; exact Bool.false_ne_true)) ?_; wp_walk using wpAny_loadPart' hl)
      | (refine wpAny_ite_false (decide_eq_false (by rw [c1]; exact Bool.false_ne_true)) ?_; wp_walk using wpAny_loadPart' hl)
      | (refine wpAny_ite_true (decide_eq_true c2) ?_; wp_walk using wpAny_loadPart' hl)); skip
    exact ⟨_, rfl, h⟩
def repV {α : Type} (k : Int) (xs : List α) : List α := (List.replicate k.toNat xs).flatten
theorem repV_one {α : Type} (xs : List α) : repV 1 xs = xs := by
  show (xs ++ []) = xs
  rw [List.append_nil]
theorem repV_nil {α : Type} (k : Int) : repV k ([] : List α) = [] := by
  unfold repV
  induction k.toNat with
  | zero => rfl
  | succ n ih => rw [List.replicate_succ, List.flatten_cons, ih]; rfl
theorem repV_le {α : Type} {k : Int} (h : k ≤ 0) (xs : List α) : repV k xs = [] := by
  unfold repV
  rw [show k.toNat = 0 by omega]
  rfl
def rRepN (K : PySem.W.Frag) : R2 := fun x y H Q => ∃ l k xs, x = .ref l ∧ y = .int k ∧ SqT K H l xs ∧ -1000 ≤ k ∧ k ≤ 1000 ∧ xs.length ≤ 1000 ∧ (repV k xs = xs → Q (.ref l) H) ∧ ∀ p, H p = none → Q (.ref p) (upd H p (.tup (repV k xs)))
section
variable {X : Cx}
theorem op_repN : OpR X (binaryOp .Mult) (rRepN X.K) := by
  intro pins s σ H x y v u Q I rx ry h
  obtain ⟨l, k, xs, rfl, rfl, hT, h1, h2, hz, q0, q⟩ := h
  cases rx
  obtain ⟨t, rfl⟩ := ry
  obtain ⟨its, r, ⟨⟨cls, dd, data, sl⟩, ho, hc, n, hd⟩, hs⟩ := I.tuple hT
  simp only at hc hd
  subst hc hd
  have hle : its.length = xs.length := r.length.symm
  have c0 : (decide (k < -(2 ^ 63)) || decide (k ≥ 2 ^ 63)) = false := by
    rw [decide_eq_false (by omega), decide_eq_false (by omega)] <;> rfl
  have ie : its.toArray.isEmpty = xs.isEmpty := by
    cases its with
    | nil =>
      have : xs = [] := List.eq_nil_of_length_eq_zero (by rw [← hle]; rfl)
      rw [this]; rfl
    | cons a b =>
      cases xs with
      | nil => cases hle
      | cons c d => rfl
  refine wpAny_binaryOp_repeat_ref (T := "tuple") (U := "int") (by decide) ⟨_, ho, rfl⟩ (fun s' => typeIs_int s' k t) noFill_tuple_mul F.fills_int_mul F.slot_int_rmul repeat_tuple F.slot_int_index.lookup ?_
  refine call_meets F.slot_int_rmul (typeIs_int s k t) F.entry_int_rmul (F.args_int_rmul_2 _ _) (int_rmul_tuple k t l its.toArray n dd sl) ⟨ho, rfl, ⟨_, ho, rfl⟩, ?_⟩
  cases c1 : (its.toArray.isEmpty || k == 1) with
  | true =>
    refine call_meets F.slot_tuple_mul ⟨_, ho, rfl⟩ F.entry_tuple_mul (F.args_tuple_mul_2 _ _) (mul_same l its.toArray n dd sl k t c0 c1) ⟨ho, ⟨.ref l, H, I, rfl, q0 ?_⟩⟩
    rw [ie, Bool.or_eq_true] at c1
    rcases c1 with c1 | c1
    · rw [List.isEmpty_iff.mp c1, repV_nil]
    · rw [eq_of_beq c1, repV_one]
  | false =>
    have c1' := c1
    rw [Bool.or_eq_false_iff] at c1'
    by_cases k0 : k ≤ 0
    · have c2 : (decide (k ≤ 0) || its.toArray.isEmpty) = true := by rw [decide_eq_true k0]; rfl
      refine call_meets F.slot_tuple_mul ⟨_, ho, rfl⟩ F.entry_tuple_mul (F.args_tuple_mul_2 _ _) (mul_none l its.toArray n dd sl k t c0 c1 c2) ⟨ho, ?_⟩
      have q' := q _ (I.hok.fresh (Nat.le_refl _))
      rw [repV_le k0] at q'
      refine ⟨.ref s.heap.objs.size, _, I.laid (t' := s.toks) (o := .tup []) (fun b ob q => Heap.get?_push_of_some _ q) (Nat.le_refl _) ?_, rfl, q'⟩
      exact ⟨Nat.zero_le _, _, .nil, IsTup.new _ _⟩
    · have hsz0 : its.toArray.size = xs.length := by rw [List.size_toArray, hle]
      have hm : ((its.toArray.size : Nat) : Int) * k ≤ 1000000 := by
        rw [hsz0]
        have a1 : ((xs.length : Nat) : Int) * k ≤ 1000 * k := Int.mul_le_mul_of_nonneg_right (by omega) (by omega)
        omega
      have a1 : k.toNat * xs.length ≤ 1000 * 1000 := Nat.mul_le_mul (by omega) hz
      have flen : (List.replicate k.toNat its).flatten.length ≤ sizeLine := by
        rw [PyProof.Rows.lm_len_rep_flat, hle, sizeLine_eq]
        omega
      have c2 : (decide (k ≤ 0) || its.toArray.isEmpty) = false := by
        rw [c1'.1, Bool.or_false]
        exact decide_eq_false k0
      have c4 : Builtin.Tuple.tupleTooMany (((its.toArray.size : Nat) : Int) * k) = false := by
        unfold Builtin.Tuple.tupleTooMany
        rw [sizeLine_eq]
        exact decide_eq_false (by omega)
      refine call_meets F.slot_tuple_mul ⟨_, ho, rfl⟩ F.entry_tuple_mul (F.args_tuple_mul_2 _ _) (tuple_mulW l its.toArray n dd sl k t c0 c1 c2 (by omega) c4 (by rw [size_rep, List.size_toArray]; exact flen)) ⟨ho, ?_⟩
      rw [size_rep]
      refine ⟨.ref s.heap.objs.size, _, I.laid (t' := s.toks) (o := .tup (repV k xs)) (fun b ob q => Heap.get?_push_of_some _ q) (Nat.le_refl _) ?_, rfl, q _ (I.hok.fresh (Nat.le_refl _))⟩
      exact ⟨by rw [repV, PyProof.Rows.lm_len_rep_flat, sizeLine_eq]; omega, _, r.rep k.toNat, IsTup.new _ _⟩
end
end KL
end
section
set_option maxHeartbeats 1000000
namespace KL
open PySem PySem.Spec PyProof.Rows L2
/-! ### comprehensions over anything that stays -/
abbrev LcG (J : It) (g : TG) (tt : TT) (te : TE) (own : List Nat) (σ : L2.St) (H0 : Hp) (D : Addr) (Qd : Hp → Prop) : Prop :=
  ∃ W : Nat → Nat → Hp → Prop, (∃ m, W 0 m (upd H0 D (.lst []))) ∧ ∀ i m H, W i m H → ((J.stop i H ∧ Qd H) ∨ (J.go i H ∧ ∃ Nx : Hp → Prop, (∀ H', Nx H' → ∃ m', m' < m ∧ W (i + 1) m' H') ∧
    ∀ x H', J.yld i H x H' → g x (wipe σ own) H' fun σ2 H2 => wipe σ2 own = wipe σ own ∧ tt σ2 H2 fun b H3 => if b = true then (te σ2 H3 fun y H4 => ∃ acc, H4 D = some (.lst acc) ∧ acc.length < sizeLine ∧ Nx (upd H4 D (.lst (acc ++ [y])))) else Nx H3))
/-- values told of those of which p tells True -/
theorem lc_valW {J : It} {n : Nat} {G : Hp → Prop} {Y : Nat → Hp → V → Hp → Prop} {X : Nat → V → Prop} {H : Hp} {f : Nat → V} {p : Nat → Bool} {i : Nat} {own : List Nat} {tt : TT} {te : TE} {σ : L2.St} {Q : Addr → Hp → Prop}
    (w : Walk J n G Y) (hY : ∀ j H1 x H2, Y j H1 x H2 → H2 = H1 ∧ X j x) (hG : ∀ H', Same H H' → G H') (hn : n ≤ 1000000) (hw : ∀ x, wipe ((wipe σ own).set i (some x)) own = wipe σ own)
    (ht : ∀ j x H2, j < n → X j x → Same H H2 → ∀ R : Bool → Hp → Prop, (∀ H3, Same H2 H3 → R (p j) H3) → tt ((wipe σ own).set i (some x)) H2 R)
    (hs : ∀ j x H2, j < n → X j x → p j = true → Same H H2 → ∀ R : VK, (∀ H3, Same H2 H3 → R (f j) H3) → te ((wipe σ own).set i (some x)) H2 R)
    (hd : ∀ D H', Same H H' → H D = none → H' D = some (.lst (((List.range n).filter p).map f)) → Q D H') : ∀ D, H D = none → LcG J (gName i) tt te own σ H D (Q D) := by
  intro D hD
  refine lc_it w (fun j H' => Same H H' ∧ H' D = some (.lst (((List.range j).filter p).map f))) ⟨same_new hD _, upd_same⟩ (fun j H' _ q => hG H' q.1) (fun j x H1 H' hj q y => ?_) (fun H' q => hd D H' q.1 hD q.2)
  obtain ⟨rfl, ex⟩ := hY _ _ _ _ y
  refine ⟨hw x, ht j x H' hj ex q.1 _ fun H3 s3 => ?_⟩
  have lf : (((List.range j).filter p).map f).length < sizeLine := by
    rw [List.length_map, sizeLine_eq]
    have := List.length_filter_le p (List.range j)
    rw [List.length_range] at this
    omega
  cases hp : p j with
  | true =>
    refine iteT (hs j x H3 hj ex hp (q.1.trans s3) _ fun H4 s4 => ⟨_, s4 _ _ (s3 _ _ q.2), lf, Same.upd_new (q.1.trans (s3.trans s4)) hD _, ?_⟩)
    rw [upd_same, List.range_succ, List.filter_append, List.filter_cons, if_pos hp, List.map_append]
    rfl
  | false =>
    refine iteF ⟨q.1.trans s3, ?_⟩
    rw [s3 _ _ q.2, List.range_succ, List.filter_append, List.filter_cons, if_neg (by rw [hp]; exact Bool.false_ne_true), List.filter_nil, List.append_nil]
/-- new things -/
theorem lc_newW {J : It} {n : Nat} {G : Hp → Prop} {Y : Nat → Hp → V → Hp → Prop} {X : Nat → V → Prop} {H : Hp} {f : Nat → Th} {i : Nat} {own : List Nat} {te : TE} {σ : L2.St} {Q : Addr → Hp → Prop}
    (w : Walk J n G Y) (hY : ∀ j H1 x H2, Y j H1 x H2 → H2 = H1 ∧ X j x) (hG : ∀ H', Same H H' → G H') (hn : n ≤ 1000000) (hw : ∀ x, wipe ((wipe σ own).set i (some x)) own = wipe σ own)
    (hs : ∀ j x H2, j < n → X j x → Same H H2 → ∀ R : VK, (∀ v H3, Same H2 H3 → At (Trk H2) H3 (f j) v → R v H3) → te ((wipe σ own).set i (some x)) H2 R)
    (hd : ∀ D H' vs, Same H H' → H D = none → H' D = some (.lst vs) → AtAll (fun a => a = D ∨ Trk H a) H' ((List.range n).map f) vs → Q D H') : ∀ D, H D = none → LcG J (gName i) tYes te own σ H D (Q D) := by
  intro D hD
  refine lc_it w (fun j H' => Same H H' ∧ ∃ vs, H' D = some (.lst vs) ∧ AtAll (fun a => a = D ∨ Trk H a) H' ((List.range j).map f) vs) ⟨same_new hD _, [], upd_same, .nil⟩ (fun j H' _ q => hG H' q.1) (fun j x H1 H' hj q y => ?_) (fun H' q => ?_)
  · obtain ⟨rfl, ex⟩ := hY _ _ _ _ y
    obtain ⟨s1, vs, eD, aD⟩ := q
    refine ⟨hw x, iteT (B := False) (hs j x H' hj ex s1 _ fun v H3 s3 a3 => ⟨vs, s3 _ _ eD, ?_, Same.upd_new (s1.trans s3) hD _, vs ++ [v], upd_same, ?_⟩)⟩
    · rw [aD.len, List.length_map, List.length_range, sizeLine_eq]; omega
    · have sD : SB (fun a => a = D ∨ Trk H a) H3 (upd H3 D (.lst (vs ++ [v]))) := .self (Z := fun a => a = D ∨ Trk H a) (.inl rfl) _
      rw [List.range_succ, List.map_append]
      refine AtAll.append ((aD.same s3).sb sD) (.cons ((a3.less fun a h => ?_).sb sD) .nil)
      rcases h with rfl | h
      · exact .of eD
      · exact Trk.same s1 h
  · obtain ⟨s1, vs, eD, aD⟩ := q
    exact hd D H' vs s1 hD eD aD
/-- things that are not in Z -/
theorem lc_newZ {J : It} {n : Nat} {G : Hp → Prop} {Y : Nat → Hp → V → Hp → Prop} {X : Nat → V → Prop} {H : Hp} {Z : Zone} {f : Nat → Th} {i : Nat} {own : List Nat} {te : TE} {σ : L2.St} {Q : Addr → Hp → Prop}
    (w : Walk J n G Y) (hY : ∀ j H1 x H2, Y j H1 x H2 → H2 = H1 ∧ X j x) (hG : ∀ H', Same H H' → G H') (hn : n ≤ 1000000) (hw : ∀ x, wipe ((wipe σ own).set i (some x)) own = wipe σ own)
    (hs : ∀ D, H D = none → ∀ j x H2, j < n → X j x → Same H H2 → Trk H2 D → ∀ R : VK, (∀ v H3, Same H2 H3 → At (fun a => a = D ∨ Z a) H3 (f j) v → R v H3) → te ((wipe σ own).set i (some x)) H2 R)
    (hd : ∀ D H' vs, Same H H' → H D = none → H' D = some (.lst vs) → AtAll (fun a => a = D ∨ Z a) H' ((List.range n).map f) vs → Q D H') : ∀ D, H D = none → LcG J (gName i) tYes te own σ H D (Q D) := by
  intro D hD
  refine lc_it w (fun j H' => Same H H' ∧ ∃ vs, H' D = some (.lst vs) ∧ AtAll (fun a => a = D ∨ Z a) H' ((List.range j).map f) vs) ⟨same_new hD _, [], upd_same, .nil⟩ (fun j H' _ q => hG H' q.1) (fun j x H1 H' hj q y => ?_) (fun H' q => ?_)
  · obtain ⟨rfl, ex⟩ := hY _ _ _ _ y
    obtain ⟨s1, vs, eD, aD⟩ := q
    refine ⟨hw x, iteT (B := False) (hs D hD j x H' hj ex s1 (.of eD) _ fun v H3 s3 a3 => ⟨vs, s3 _ _ eD, ?_, Same.upd_new (s1.trans s3) hD _, vs ++ [v], upd_same, ?_⟩)⟩
    · rw [aD.len, List.length_map, List.length_range, sizeLine_eq]; omega
    · have sD : SB (fun a => a = D ∨ Z a) H3 (upd H3 D (.lst (vs ++ [v]))) := .self (Z := fun a => a = D ∨ Z a) (.inl rfl) _
      rw [List.range_succ, List.map_append]
      exact AtAll.append ((aD.same s3).sb sD) (.cons (a3.sb sD) .nil)
  · obtain ⟨s1, vs, eD, aD⟩ := q
    exact hd D H' vs s1 hD eD aD
theorem range_map_get {α β : Type} (g : α → β) (d : α) (xs : List α) : (List.range xs.length).map (fun j => g ((xs[j]?).getD d)) = xs.map g := by
  refine List.ext_getElem? fun j => ?_
  rw [List.getElem?_map, List.getElem?_map]
  by_cases h : j < xs.length
  · rw [List.getElem?_range h]
    show some (g ((xs[j]?).getD d)) = _
    rw [List.getElem?_eq_getElem h]
    rfl
  · rw [List.getElem?_eq_none (by rw [List.length_range]; omega), List.getElem?_eq_none (by omega)]
    rfl
theorem walk_enumT {K : PySem.W.Frag} {a : Addr} {xs : List V} : Walk (IteT K a) xs.length (fun H => SqT K H a xs) (YPair (fun i => some (.int (i : Nat))) (fun i => xs[i]?)) := by
  refine ⟨fun i _ hi q => ⟨xs, xs[i], q, by simp [hi]⟩, fun _ q => ⟨xs, q, Nat.le_refl _⟩, fun i H v H' _ q y => ?_⟩
  obtain ⟨T, x, h1, h2, h3, h4⟩ := y
  exact ⟨T, .int (i : Nat), x, h1, h2, h3, rfl, h4 xs q⟩
/-- a dict made over anything that stays -/
theorem dc_it {J : It} {n : Nat} {G : Hp → Prop} {Y : Nat → Hp → V → Hp → Prop} (w : Walk J n G Y) {g : TG} {tt : TT} {tk tv : TE} {own : List Nat} {σ : L2.St} {H1 : Hp} {D : Addr} {Qd : Hp → Prop} (Pv : Nat → Hp → Prop) (h0 : Pv 0 (upd H1 D (.dK []))) (hG : ∀ i H, i ≤ n → Pv i H → G H)
    (hs : ∀ i x H H', i < n → Pv i H → Y i H x H' → g x (wipe σ own) H' fun σ2 H2 => wipe σ2 own = wipe σ own ∧ tt σ2 H2 fun b H3 =>
      if b = true then (tk σ2 H3 fun y H4 => tv σ2 H4 fun z H5 => ∃ kvs k, y = kV k ∧ H5 D = some (.dK kvs) ∧ kvs.length < sizeLine ∧ Pv (i + 1) (upd H5 D (.dK (putK kvs k z)))) else Pv (i + 1) H3) (hd : ∀ H, Pv n H → Qd H) :
    ∃ W : Nat → Nat → Hp → Prop, (∃ m, W 0 m (upd H1 D (.dK []))) ∧ ∀ i m H, W i m H → ((J.stop i H ∧ Qd H) ∨ (J.go i H ∧ ∃ Nx : Hp → Prop, (∀ H', Nx H' → ∃ m', m' < m ∧ W (i + 1) m' H') ∧
      ∀ x H', J.yld i H x H' → g x (wipe σ own) H' fun σ2 H2 => wipe σ2 own = wipe σ own ∧ tt σ2 H2 fun b H3 => if b = true then (tk σ2 H3 fun y H4 => tv σ2 H4 fun z H5 => ∃ kvs k, y = kV k ∧ H5 D = some (.dK kvs) ∧ kvs.length < sizeLine ∧ Nx (upd H5 D (.dK (putK kvs k z)))) else Nx H3)) := by
  refine ⟨fun i m H => m = n - i ∧ i ≤ n ∧ Pv i H, ⟨n, by simp, Nat.zero_le _, h0⟩, ?_⟩
  rintro i m H ⟨rfl, hi, p⟩
  have q := hG i H hi p
  by_cases hlt : i < n
  · exact .inr ⟨w.goes i H hlt q, Pv (i + 1), fun H' p' => ⟨n - (i + 1), by omega, rfl, hlt, p'⟩, fun x H' y => hs i x H H' hlt p (w.yields i H x H' hlt q y)⟩
  · have e : i = n := by omega
    subst e
    exact .inl ⟨w.stops H q, hd H p⟩
/-! ### small facts -/
theorem get_snoc {α : Type} {as : List α} {x a : α} {i : Nat} (h : (as ++ [x])[i]? = some a) : as[i]? = some a ∨ (i = as.length ∧ a = x) := by
  rw [List.getElem?_append] at h
  split at h
  · exact .inl h
  · next hi =>
    have h2 := (List.getElem?_eq_some_iff.mp h)
    obtain ⟨hl, e⟩ := h2
    have : i - as.length = 0 := by simpa using hl
    refine .inr ⟨by omega, ?_⟩
    rw [← e]
    simp
/-- a step as it lies at its place -/
theorem st_get {Z : Zone} {H : Hp} {ss : List Th} {vs : List V} {n : Int} {j : Nat} {w : V} (a : AtAll Z H ss vs) (h : ∀ st ∈ ss, StepIs n st) (e : vs[j]? = some w) :
    (ss[j]? = some .non ∧ w = .non) ∨ ∃ q m s', ss[j]? = some (.tup [.int m, .int s']) ∧ w = .ref q ∧ H q = some (.tup [.int m, .int s']) ∧ ¬ Z q ∧ 0 ≤ m ∧ m ≤ 60 ∧ 0 ≤ s' ∧ s' < n := by
  obtain ⟨d, ed, hd⟩ := a.get e
  rcases h d (List.mem_of_getElem? ed) with rfl | ⟨m, s', rfl, m0, m1, s0, s1⟩
  · exact .inl ⟨ed, hd⟩
  · obtain ⟨q, us, rfl, nq, eq', u1, us1, rfl, r1, u2, us2, rfl, r2, a3⟩ := hd
    cases r1; cases r2
    rw [show us2 = [] from a3] at eq'
    exact .inr ⟨q, m, s', ed, rfl, eq', nq, m0, m1, s0, s1⟩
/-- a step that lies alone -/
theorem st_at {Z : Zone} {H : Hp} {st : Th} {w : V} {n : Int} (hd : At Z H st w) (h : StepIs n st) :
    (st = .non ∧ w = .non) ∨ ∃ q m s', st = .tup [.int m, .int s'] ∧ w = .ref q ∧ H q = some (.tup [.int m, .int s']) ∧ ¬ Z q ∧ 0 ≤ m ∧ m ≤ 60 ∧ 0 ≤ s' ∧ s' < n := by
  rcases h with rfl | ⟨m, s', rfl, m0, m1, s0, s1⟩
  · exact .inl ⟨rfl, hd⟩
  · obtain ⟨q, us, rfl, nq, eq', u1, us1, rfl, r1, u2, us2, rfl, r2, a3⟩ := hd
    cases r1; cases r2
    rw [show us2 = [] from a3] at eq'
    exact .inr ⟨q, m, s', rfl, rfl, eq', nq, m0, m1, s0, s1⟩
theorem nd_inj {α : Type} [BEq α] [LawfulBEq α] {as : List α} (nd : as.Nodup) {i j : Nat} {a : α} (h1 : as[i]? = some a) (h2 : as[j]? = some a) : i = j := by
  obtain ⟨l1, q1⟩ := List.getElem?_eq_some_iff.mp h1
  obtain ⟨l2, q2⟩ := List.getElem?_eq_some_iff.mp h2
  have e1 := nd.idxOf_getElem i l1
  have e2 := nd.idxOf_getElem j l2
  rw [q1] at e1
  rw [q2] at e2
  exact e1.symm.trans e2
end KL
end
section
set_option maxHeartbeats 1000000
namespace KL
open PySem PySem.Spec PyProof.Rows L2
/-- a list of lists, all of them new -/
def LLn (H0 H : Hp) (W : Addr) (ways : List (List Nat)) : Prop := ∃ as : List Addr, H W = some (.lst (as.map V.ref)) ∧ as.length = ways.length ∧ ∀ (i : Nat) (a : Addr) (ws : List Nat), as[i]? = some a → ways[i]? = some ws → H0 a = none ∧ H a = some (.lst (ws.map nV))
theorem LLn.ll {H0 H : Hp} {W : Addr} {ways : List (List Nat)} (h : LLn H0 H W ways) : LL H W ways :=
  let ⟨as, e, l, q⟩ := h
  ⟨as, e, l, fun i a ws ha hw => (q i a ws ha hw).2⟩
/-- a machine's rows as they lie -/
def spNexts : Sp := fun vs H Q _ => ∃ (Z : Zone) (pr : Addr) (us : List V) (z : Int) (rows : List Th), vs = [.ref pr] ∧ H pr = some (.tup us) ∧ AtAll Z H rows us ∧ MOk z rows ∧ ∀ N H', Same H H' → H N = none → LLn H H' N (nxs rows) → Q (.ref N) H'
def spBefores : Sp := fun vs H Q _ => ∃ (Z : Zone) (pr : Addr) (us : List V) (z : Int) (rows : List Th), vs = [.ref pr] ∧ H pr = some (.tup us) ∧ AtAll Z H rows us ∧ MOk z rows ∧ ∀ N (bs : List (List Nat)) H', Same H H' → H N = none → LL H' N bs → bs.length = rows.length → (∀ i t : Nat, t ∈ (bs[i]?).getD [] ↔ i ∈ ((nxs rows)[t]?).getD []) → Q (.ref N) H'
section
variable {P : Program} {w : World} {K : PySem.W.Frag} {mg : Str → Option Value} {base : Heap} {k : Nat}
end
end KL
end
section
set_option maxHeartbeats 1000000
namespace KL
open PySem PySem.Spec PyProof.Rows L2
/-- the dict that numbers the states -/
def NumAt (H : Hp) (nd : Addr) (ks : List Nat) : Prop := ∃ kvs : List (Key × V), H nd = some (.dK kvs) ∧ ∀ s : Nat, valV kvs (Sum.inl (s : Int)) = if s ∈ ks then some (V.int (ks.idxOf s : Nat)) else none
theorem NumAt.same {H H' : Hp} {nd : Addr} {ks : List Nat} (h : NumAt H nd ks) (s : Same H H') : NumAt H' nd ks := let ⟨kvs, e, q⟩ := h; ⟨kvs, s _ _ e, q⟩
def spRenS : Sp := fun vs H Q _ => ∃ (Z : Zone) (st : Th) (v : V) (nd : Addr) (ks : List Nat) (n : Int), vs = [v, .ref nd] ∧ At Z H st v ∧ StepIs n st ∧ NumAt H nd ks ∧ ∀ v' H', Same H H' → At (Trk H) H' (renS ks st) v' → Q v' H'
def spRenT : Sp := fun vs H Q _ => ∃ (Z : Zone) (r : Th) (v : V) (nd : Addr) (ks : List Nat) (z n : Int), vs = [v, .ref nd] ∧ At Z H r v ∧ rowB z n r = true ∧ z ≤ 8 ∧ NumAt H nd ks ∧ ∀ v' H', Same H H' → At (Trk H) H' (renT ks r) v' → Q v' H'
section
variable {P : Program} {w : World} {K : PySem.W.Frag} {mg : Str → Option Value} {base : Heap} {k : Nat}
end
end KL
end
section
set_option maxHeartbeats 1000000
namespace KL
open PySem PySem.Spec PyProof.Rows L2
def endB (rows : List Th) (s : Nat) : Bool := !isNon (endOf ((rows[s]?).getD .non))
theorem endB_iff {rows : List Th} {s : Nat} : endB rows s = true ↔ isEnd rows s := by
  unfold endB isEnd
  cases endOf ((rows[s]?).getD .non) <;> simp [isNon]
theorem isEnd_lt {rows : List Th} {s : Nat} (h : isEnd rows s) : s < rows.length := by
  by_cases hh : s < rows.length
  · exact hh
  · exact absurd (by rw [List.getElem?_eq_none (by omega)]; rfl) h
def endsL (rows : List Th) : List Nat := (List.range rows.length).filter (endB rows)
theorem mem_endsL {rows : List Th} {s : Nat} : s ∈ endsL rows ↔ isEnd rows s := by
  unfold endsL
  rw [List.mem_filter, List.mem_range, endB_iff]
  exact ⟨fun h => h.2, fun h => ⟨isEnd_lt h, h⟩⟩
theorem repV_single {α : Type} (k : Int) (x : α) : repV k [x] = List.replicate k.toNat x := by
  unfold repV
  induction k.toNat with
  | zero => rfl
  | succ n ih => rw [List.replicate_succ, List.flatten_cons, ih, List.replicate_succ]; rfl
theorem atAll_rep {Z : Zone} {H : Hp} : ∀ n : Nat, AtAll Z H (List.replicate n Th.non) (List.replicate n V.non)
  | 0 => .nil
  | n + 1 => .cons rfl (atAll_rep n)
theorem filt_t {p : Nat → Bool} {j : Nat} (h : p j = true) : (List.range (j + 1)).filter p = (List.range j).filter p ++ [j] := by
  rw [List.range_succ, List.filter_append, List.filter_cons, if_pos h]
  rfl
theorem filt_f {p : Nat → Bool} {j : Nat} (h : p j = false) : (List.range (j + 1)).filter p = (List.range j).filter p := by
  rw [List.range_succ, List.filter_append, List.filter_cons, if_neg (by rw [h]; exact Bool.false_ne_true), List.filter_nil, List.append_nil]
def spTrimOf : Sp := fun vs H Q _ => ∃ (Z : Zone) (u : V) (z : Int) (rows : List Th), vs = [u] ∧ At Z H (.tup [.int z, .tup rows]) u ∧ MOk z rows ∧ ∀ v H', Same H H' → At (Trk H) H' (trimT z rows) v → Q v H'
def spTextless : Sp := fun vs H Q _ => ∃ (z : Int), vs = [.int z] ∧ 0 ≤ z ∧ z ≤ 9 ∧ ∀ v H', Same H H' → At (Trk H) H' (.tup [.int z, .tup [bareRow z]]) v → Q v H'
def spTrimmed (CM : Addr) : Sp := fun vs H Q E => ∃ (Z : Zone) (u : V) (e : Th), vs = [u] ∧ At Z H e u ∧ shortT e = true ∧
  (∀ z rows, e = .tup [.int z, .tup rows] → MOk z rows → ∀ v H', Same H H' → At (Trk H) H' (trimT z rows) v → Q v H') ∧ (machB e = false → ∀ H', Same H H' → E (.ref CM) none H')
theorem put_len {κ : Type} [DecidableEq κ] (c : List (κ × V)) (k : κ) (x : V) : (putK c k x).length ≤ c.length + 1 := by
  unfold putK
  split
  · rw [List.length_map]; omega
  · rw [List.length_append]; exact Nat.le_refl _
theorem num_step {ks : List Nat} (nd : ks.Nodup) {kvs : List (Key × V)} {i t : Nat} (et : ks[i]? = some t) (hv : ∀ s : Nat, valV kvs (Sum.inl (s : Int)) = if s ∈ ks.take i then some (V.int ((ks.take i).idxOf s : Nat)) else none) :
    ∀ s : Nat, valV (putK kvs (Sum.inl (t : Int)) (V.int (i : Nat))) (Sum.inl (s : Int)) = if s ∈ ks.take (i + 1) then some (V.int ((ks.take (i + 1)).idxOf s : Nat)) else none := by
  intro s
  have hi := (List.getElem?_eq_some_iff.mp et).1
  have tk : ks.take (i + 1) = ks.take i ++ [t] := by rw [List.take_add_one, et]; rfl
  have li : (ks.take i).length = i := by rw [List.length_take]; omega
  have nt : t ∉ ks.take i := fun m => by
    obtain ⟨j, ej⟩ := List.mem_iff_getElem?.mp m
    have lj := (List.getElem?_eq_some_iff.mp ej).1
    rw [li] at lj
    rw [List.getElem?_take_of_lt lj] at ej
    exact Nat.ne_of_lt lj (nd_inj nd ej et)
  rw [valV_put, tk]
  by_cases e : s = t
  · subst e
    rw [if_pos rfl, if_pos (by simp), List.idxOf_append, if_neg nt, li]
    simp
  · rw [if_neg (fun h => e (by injection h with h; omega)), hv s]
    by_cases hs : s ∈ ks.take i
    · rw [if_pos hs, if_pos (List.mem_append_left _ hs), List.idxOf_append, if_pos hs]
    · rw [if_neg hs, if_neg (fun m => by
        rcases List.mem_append.mp m with m | m
        · exact hs m
        · exact e (List.mem_singleton.mp m))]
section
variable {P : Program} {w : World} {K : PySem.W.Frag} {mg : Str → Option Value} {base : Heap} {k : Nat}
end
end KL
end
section
set_option maxHeartbeats 1000000
namespace KL
open PySem PySem.Spec PyProof.Rows L2
theorem flat_ns (fs : List Nat) : (fs.map nV).all flatV = true := by
  rw [List.all_eq_true]
  intro x m
  obtain ⟨i, _, rfl⟩ := List.mem_map.mp m
  rfl
theorem inV_ns (t : Nat) (fs : List Nat) : inV (nV t) (fs.map nV) = decide (t ∈ fs) := by
  induction fs with
  | nil => rfl
  | cons a r ih =>
    show (eqV (nV a) (nV t) || inV (nV t) (r.map nV)) = _
    rw [ih]
    show (((a : Int) == (t : Int)) || decide (t ∈ r)) = _
    by_cases e : a = t
    · subst e
      simp
    · have : ((a : Int) == (t : Int)) = false := beq_eq_false_iff_ne.mpr (by omega)
      rw [this, Bool.false_or]
      exact decide_eq_decide.mpr ⟨fun m => List.mem_cons_of_mem _ m, fun m => (List.mem_cons.mp m).resolve_left (fun h => e h.symm)⟩
theorem notin_ns (t : Nat) (fs : List Nat) : (!inV (nV t) (fs.map nV)) = true ↔ t ∉ fs := by
  rw [inV_ns]
  by_cases h : t ∈ fs
  · rw [decide_eq_true h]; simp [h]
  · rw [decide_eq_false h]; simp [h]
def spLNexts : Sp := fun vs H Q _ => ∃ (Z : Zone) (r : Th) (v : V) (z n : Int), vs = [v] ∧ At Z H r v ∧ rowB z n r = true ∧ z ≤ 8 ∧ ∀ N H', Same H H' → H N = none → H' N = some (.lst ((nxr r).map nV)) → Q (.ref N) H'
def spFresh : Sp := fun vs H Q _ => ∃ (A B : Addr) (fs ms : List Nat), vs = [.ref A, .ref B] ∧ H A = some (.lst (fs.map nV)) ∧ H B = some (.lst (ms.map nV)) ∧ ms.length ≤ 1000 ∧ ∀ (N : Addr) (fr : List Nat) (H' : Hp), Same H H' → H N = none → H' N = some (.lst (fr.map nV)) → fr.length ≤ ms.length → fr.Nodup → (∀ x, x ∈ fr ↔ x ∈ ms ∧ x ∉ fs) → Q (.ref N) H'
def spReached : Sp := fun vs H Q _ => ∃ (Z : Zone) (pr : Addr) (us : List V) (z : Int) (rows : List Th) (b : Nat), vs = [.ref pr, .int (b : Nat)] ∧ H pr = some (.tup us) ∧ AtAll Z H rows us ∧ MOk z rows ∧ b < rows.length ∧ ∀ (N : Addr) (fs : List Nat) (H' : Hp), Same H H' → H N = none → H' N = some (.lst (fs.map nV)) → fs.Nodup → (∀ x, x ∈ fs ↔ Rc rows b x) → Q (.ref N) H'
def spLEnds : Sp := fun vs H Q _ => ∃ (Z : Zone) (pr : Addr) (us : List V) (z : Int) (rows : List Th) (b : Nat), vs = [.ref pr, .int (b : Nat)] ∧ H pr = some (.tup us) ∧ AtAll Z H rows us ∧ MOk z rows ∧ b < rows.length ∧ ∀ H', Same H H' → Q (.bl (lvEB rows b)) H'
/-- what a walk by turns holds -/
structure RI (rows : List Th) (b i : Nat) (fs : List Nat) : Prop where
  nd : fs.Nodup
  mb : b ∈ fs
  snd : ∀ x ∈ fs, Rc rows b x
  clo : ∀ (j x : Nat), j < i → fs[j]? = some x → ∀ t ∈ ((nxs rows)[x]?).getD [], t ∈ fs
theorem nd_len {n : Nat} {fs : List Nat} (nd : fs.Nodup) (h : ∀ x ∈ fs, x < n) : fs.length ≤ n := by
  have := nd.length_le_of_subset (l₂ := List.range n) (fun x m => List.mem_range.mpr (h x m))
  rwa [List.length_range] at this
theorem RI.len {z : Int} {rows : List Th} {b i : Nat} {fs : List Nat} (h : RI rows b i fs) (ok : MOk z rows) (hb : b < rows.length) : fs.length ≤ rows.length := nd_len h.nd fun x m => ok.rc_lt hb (h.snd x m)
theorem RI.done {z : Int} {rows : List Th} {b : Nat} {fs : List Nat} (ok : MOk z rows) (hb : b < rows.length) (h : RI rows b rows.length fs) (x : Nat) : x ∈ fs ↔ Rc rows b x := by
  refine ⟨h.snd x, fun r => ?_⟩
  induction r with
  | base m => rw [List.mem_singleton.mp m]; exact h.mb
  | step r m ih =>
    obtain ⟨j, ej⟩ := List.mem_iff_getElem?.mp ih
    have lj := (List.getElem?_eq_some_iff.mp ej).1
    have := h.len ok hb
    exact h.clo j _ (by omega) ej _ m
theorem RI.skip {rows : List Th} {b i : Nat} {fs : List Nat} (h : RI rows b i fs) (hi : fs.length ≤ i) : RI rows b (i + 1) fs where
  nd := h.nd
  mb := h.mb
  snd := h.snd
  clo := fun j x hj ej => h.clo j x (by have := (List.getElem?_eq_some_iff.mp ej).1; omega) ej
theorem RI.more {rows : List Th} {b i x : Nat} {fs fr : List Nat} (h : RI rows b i fs) (ex : fs[i]? = some x) (nd : fr.Nodup) (hr : ∀ y, y ∈ fr ↔ y ∈ ((nxs rows)[x]?).getD [] ∧ y ∉ fs) : RI rows b (i + 1) (fs ++ fr) where
  nd := List.nodup_append.mpr ⟨h.nd, nd, fun a ma c mc e => by
    subst e
    exact ((hr a).mp mc).2 ma⟩
  mb := List.mem_append_left _ h.mb
  snd := fun y m => by
    rcases List.mem_append.mp m with m | m
    · exact h.snd y m
    · exact .step (h.snd x (List.mem_of_getElem? ex)) ((hr y).mp m).1
  clo := fun j y hj ej t mt => by
    have hi := (List.getElem?_eq_some_iff.mp ex).1
    rw [List.getElem?_append_left (by omega)] at ej
    by_cases e : j = i
    · subst e
      rw [ex] at ej
      cases ej
      by_cases hm : t ∈ fs
      · exact List.mem_append_left _ hm
      · exact List.mem_append_right _ ((hr t).mpr ⟨mt, hm⟩)
    · exact List.mem_append_left _ (h.clo j y (by omega) ej t mt)
section
variable {P : Program} {w : World} {K : PySem.W.Frag} {mg : Str → Option Value} {base : Heap} {k : Nat}
theorem filt_all (n : Nat) : (List.range n).filter (fun _ => true) = List.range n := List.filter_eq_self.mpr fun _ _ => rfl
end
end KL
end
section
set_option maxHeartbeats 1000000
namespace KL
open PySem PySem.Spec PyProof.Rows L2
def spKept : Sp := fun vs H Q _ => ∃ (Z : Zone) (st : Th) (v : V) (sd : Addr) (ks : List Nat) (n : Int), vs = [v, .ref sd] ∧ At Z H st v ∧ StepIs n st ∧ H sd = some (.lst (ks.map nV)) ∧ ∀ v' H', Same H H' → At (Trk H) H' (renS ks st) v' → Q v' H'
def spLTrim : Sp := fun vs H Q _ => ∃ (Z : Zone) (u : V) (z : Int) (rows : List Th), vs = [u] ∧ At Z H (.tup [.int z, .tup rows]) u ∧ MOk z rows ∧ ∀ v H', Same H H' → At (Trk H) H' (trimT z rows) v → Q v H'
/-- two rising lists of the same numbers -/
theorem rise_eq : ∀ {xs ys : List Nat}, xs.Pairwise (· < ·) → ys.Pairwise (· < ·) → (∀ x, x ∈ xs ↔ x ∈ ys) → xs = ys
  | [], [], _, _, _ => rfl
  | [], y :: ys, _, _, h => absurd ((h y).mpr List.mem_cons_self) (by simp)
  | x :: xs, [], _, _, h => absurd ((h x).mp List.mem_cons_self) (by simp)
  | x :: xs, y :: ys, hx, hy, h => by
    rw [List.pairwise_cons] at hx hy
    have e : x = y := by
      have h1 := (h x).mp List.mem_cons_self
      have h2 := (h y).mpr List.mem_cons_self
      rcases List.mem_cons.mp h1 with h1 | h1
      · exact h1
      · rcases List.mem_cons.mp h2 with h2 | h2
        · exact h2.symm
        · have := hx.1 y h2
          have := hy.1 x h1
          omega
    subst e
    congr 1
    refine rise_eq hx.2 hy.2 fun z => ?_
    constructor
    · intro m
      rcases List.mem_cons.mp ((h z).mp (List.mem_cons_of_mem _ m)) with e | m'
      · subst e; exact absurd (hx.1 z m) (Nat.lt_irrefl _)
      · exact m'
    · intro m
      rcases List.mem_cons.mp ((h z).mpr (List.mem_cons_of_mem _ m)) with e | m'
      · subst e; exact absurd (hy.1 z m) (Nat.lt_irrefl _)
      · exact m'
theorem cast_nonneg : ∀ ns : List Int, (∀ x ∈ ns, 0 ≤ x) → (ns.map Int.toNat).map (fun n : Nat => (n : Int)) = ns
  | [], _ => rfl
  | x :: xs, h => by
    rw [List.map_cons, List.map_cons, cast_nonneg xs (fun y m => h y (List.mem_cons_of_mem _ m))]
    have := h x List.mem_cons_self
    rw [show ((x.toNat : Nat) : Int) = x by omega]
theorem keep_rise (rows : List Th) : (keep rows).Pairwise (· < ·) := List.Pairwise.filter _ List.pairwise_lt_range
theorem lt_of_le_nd : ∀ {xs : List Nat}, xs.Pairwise (· ≤ ·) → xs.Nodup → xs.Pairwise (· < ·)
  | [], _, _ => .nil
  | x :: xs, h, n => by
    rw [List.pairwise_cons] at h
    have n' := List.nodup_cons.mp n
    exact List.pairwise_cons.mpr ⟨fun y m => Nat.lt_of_le_of_ne (h.1 y m) (fun e => n'.1 (by rw [e]; exact m)), lt_of_le_nd h.2 n'.2⟩
theorem sorted_keep {rows : List Th} {fs ss : List Nat} (hm : ∀ x, x ∈ fs ↔ Rc rows 0 x) (lt : ∀ x ∈ fs, x < rows.length) (nd : fs.Nodup) (pm : ss.Perm fs) (so : ss.Pairwise (· ≤ ·)) : ss.filter (lvEB rows) = keep rows := by
  refine rise_eq (List.Pairwise.filter _ (lt_of_le_nd so (pm.nodup_iff.mpr nd))) (keep_rise rows) fun x => ?_
  rw [List.mem_filter, mem_keep, pm.mem_iff, hm, lvEB_iff]
  exact ⟨fun h => ⟨lt x ((hm x).mpr h.1), h⟩, fun h => h.2⟩
theorem filt_get (p : Nat → Bool) : ∀ xs : List Nat, ((List.range xs.length).filter (fun j => p ((xs[j]?).getD 0))).map (fun j => nV ((xs[j]?).getD 0)) = (xs.filter p).map nV := by
  intro xs
  have hx : (List.range xs.length).map (fun j => (xs[j]?).getD 0) = xs := by
    have := range_map_get (fun x : Nat => x) 0 xs
    rwa [List.map_id'] at this
  have e : xs.filter p = ((List.range xs.length).filter (fun j => p ((xs[j]?).getD 0))).map (fun j => (xs[j]?).getD 0) := by
    conv => lhs; rw [← hx]
    exact List.filter_map
  rw [e, List.map_map]
  rfl
section
variable {P : Program} {w : World} {K : PySem.W.Frag} {mg : Str → Option Value} {base : Heap} {k : Nat}
end
end KL
end
section
set_option maxHeartbeats 1000000
namespace KL
open PySem PySem.Spec PyProof.Rows L2
/-! ### texts, and tuples put together exactly -/
def Lets (z : Int) (ls : List Th) : Prop := ∀ l ∈ ls, ∃ i, l = .int i ∧ 0 ≤ i ∧ i < z
theorem Lets.nil (z : Int) : Lets z [] := fun l m => nomatch m
theorem Lets.app {z : Int} {ls ks : List Th} (h : Lets z ls) (k : Lets z ks) : Lets z (ls ++ ks) := fun l m => (List.mem_append.mp m).elim (h l) (k l)
theorem Lets.one {z i : Int} (h0 : 0 ≤ i) (h1 : i < z) : Lets z [.int i] := fun l m => ⟨i, List.mem_singleton.mp m, h0, h1⟩
def rCatX (K : PySem.W.Frag) : R2 := fun x y H Q => ∃ (Z : Zone) (ds es : List Th), At Z H (.tup ds) x ∧ At Z H (.tup es) y ∧ (∀ a, Z a → Trk H a) ∧ ds.length + es.length ≤ 1000000 ∧ ∀ v H', Same H H' → At Z H' (.tup (ds ++ es)) v → Q v H'
section
variable {X : Cx}
theorem op_catX : OpR X (binaryOp .Add) (rCatX X.K) := by
  intro pins s σ H x y v u Q I rx ry h
  refine op_catA pins s σ H x y v u Q I rx ry ?_
  obtain ⟨Z, ds, es, h1, h2, hZ, hz, q⟩ := h
  obtain ⟨a, vs, rfl, na, e1, a1⟩ := id h1
  obtain ⟨b, us, rfl, nb, e2, a2⟩ := id h2
  refine ⟨a, b, vs, us, rfl, rfl, .of e1, .of e2, by rw [a1.len, a2.len, sizeLine_eq]; omega, fun e => ?_, fun _ e => ?_, fun _ _ p hp => ?_⟩
  · have : ds = [] := List.eq_nil_of_length_eq_zero (by rw [← a1.len, e]; rfl)
    have q' := q (.ref b) H (Same.refl H)
    rw [this, List.nil_append] at q'
    exact q' h2
  · have : es = [] := List.eq_nil_of_length_eq_zero (by rw [← a2.len, e]; rfl)
    have q' := q (.ref a) H (Same.refl H)
    rw [this, List.append_nil] at q'
    exact q' h1
  · have sp := same_new hp (.tup (vs ++ us))
    exact q _ _ sp ⟨p, _, rfl, fun t => hZ p t hp, upd_same, (a1.append a2).same sp⟩
end
def spWay : Sp := fun vs H Q _ => ∃ (Z : Zone) (pr ed : Addr) (us : List V) (z : Int) (rows : List Th) (b : Nat) (es : List Nat), vs = [.ref pr, .int (b : Nat), .ref ed] ∧ H pr = some (.tup us) ∧ AtAll Z H rows us ∧ MOk z rows ∧ b < rows.length ∧ H ed = some (.lst (es.map nV)) ∧
  (∀ (v : V) (H' : Hp) (ls : List Th) (e : Nat), Same H H' → e ∈ es → Led rows b ls e → Lets z ls → ls.length ≤ 1000 → At (Trk H) H' (.tup ls) v → Q v H') ∧ ((∀ e ∈ es, ¬ Rc rows b e) → ∀ H', Same H H' → Q .non H')
/-- the states found and the texts to them -/
structure WD (z : Int) (rows : List Th) (b : Nat) (Z : Zone) (H : Hp) (left : List Nat) (kvs : List (Key × V)) : Prop where
  nd : left.Nodup
  mb : b ∈ left
  snd : ∀ x ∈ left, Rc rows b x
  kl : kvs.length = left.length
  txt : ∀ x : Nat, x ∈ left → ∃ v ls, valV kvs (Sum.inl (x : Int)) = some v ∧ Led rows b ls x ∧ Lets z ls ∧ ls.length ≤ left.length ∧ At Z H (.tup ls) v
  non : ∀ x : Nat, x ∉ left → valV kvs (Sum.inl (x : Int)) = none
theorem WD.sb {z : Int} {rows : List Th} {b : Nat} {Z : Zone} {H H' : Hp} {left : List Nat} {kvs : List (Key × V)} (h : WD z rows b Z H left kvs) (s : SB Z H H') : WD z rows b Z H' left kvs :=
  ⟨h.nd, h.mb, h.snd, h.kl, fun x m => let ⟨v, ls, e1, e2, e3, e4, e5⟩ := h.txt x m; ⟨v, ls, e1, e2, e3, e4, e5.sb s⟩, h.non⟩
theorem WD.len {z : Int} {rows : List Th} {b : Nat} {Z : Zone} {H : Hp} {left : List Nat} {kvs : List (Key × V)} (h : WD z rows b Z H left kvs) (ok : MOk z rows) (hb : b < rows.length) : left.length ≤ rows.length := nd_len h.nd fun x m => ok.rc_lt hb (h.snd x m)
theorem WD.add {z : Int} {rows : List Th} {b x l t : Nat} {m : Int} {Z : Zone} {H : Hp} {left : List Nat} {kvs : List (Key × V)} (h : WD z rows b Z H left kvs) (mx : x ∈ left) (e : stepAt rows x l = .tup [.int m, .int (t : Int)]) (hl : (l : Int) < z) (nt : t ∉ left)
    {v : V} {ls : List Th} (hd : Led rows b ls x) (hL : Lets z ls) (hn : ls.length ≤ left.length) (ha : At Z H (.tup (ls ++ [.int (l : Nat)])) v) : WD z rows b Z H (left ++ [t]) (putK kvs (Sum.inl (t : Int)) v) where
  nd := List.nodup_append.mpr ⟨h.nd, by simp, fun a ma c mc e => by
    rw [List.mem_singleton.mp mc] at e
    subst e
    exact nt ma⟩
  mb := List.mem_append_left _ h.mb
  snd := fun y my => by
    rcases List.mem_append.mp my with my | my
    · exact h.snd y my
    · rw [List.mem_singleton.mp my]
      have := step_nx e
      rw [Int.toNat_natCast] at this
      exact .step (h.snd x mx) this
  kl := by rw [putK_new v (h.non t nt), List.length_append, List.length_append, h.kl]; rfl
  txt := fun y my => by
    rw [valV_put]
    rcases List.mem_append.mp my with my | my
    · have ne : y ≠ t := fun e => nt (e ▸ my)
      rw [if_neg (fun h => ne (by injection h with h; omega))]
      obtain ⟨v, ls, e1, e2, e3, e4, e5⟩ := h.txt y my
      exact ⟨v, ls, e1, e2, e3, by rw [List.length_append]; omega, e5⟩
    · have et := List.mem_singleton.mp my
      subst et
      rw [if_pos rfl]
      refine ⟨v, ls ++ [.int (l : Nat)], rfl, ?_, hL.app (Lets.one (by omega) hl), by rw [List.length_append, List.length_append, List.length_singleton, List.length_singleton]; omega, ha⟩
      have := hd.snoc e
      rwa [Int.toNat_natCast] at this
  non := fun y ny => by
    rw [valV_put]
    have ne : y ≠ t := fun e => ny (by rw [e]; simp)
    rw [if_neg (fun h => ne (by injection h with h; omega))]
    exact h.non y fun m => ny (List.mem_append_left _ m)
theorem inV_ns' (t : Nat) (fs : List Nat) : inV (nV t) (fs.map nV) = true ↔ t ∈ fs := by rw [inV_ns, decide_eq_true_eq]
section
variable {P : Program} {w : World} {K : PySem.W.Frag} {mg : Str → Option Value} {base : Heap} {k : Nat}
end
end KL
end
section
set_option maxHeartbeats 1000000
namespace KL
open PySem PySem.Spec PyProof.Rows L2
section
variable {X : Cx} {k : Nat} {x : Str} {ps : List Str} {sp : Sp} {e : Expr} {es : List Expr} {t : TA} {p pos : Pos}
/-- a call of a def that may raise, but doesn't -/
theorem pe_calL (C : Cal X.prog X.w X.K X.mg X.base (L2.CX X.prog X.w) k x ps sp) (hr : Room k X.A) (hg : Gl X x) (ha : PA X (e :: es) t) (hdb : (x == ("__debug__" : Str)) = false := by decide)
    (he : starEach (e :: es) X.env = (false, eval e X.env) :: starEach es X.env := by rfl) (hpl : (backTo pos (starEach es X.env)).any (·.1) = false := by rfl) :
    PE X (.Call (.Name x p) (e :: es) [] pos) (tCall sp [] E0 t) :=
  let ⟨_, _, F, m, kp, b⟩ := C.ex
  pe_call F hr hg m kp b .nil passL ha hdb he hpl
end
theorem shortL_of : ∀ {xs : List Th}, (∀ x ∈ xs, shortT x = true) → shortL xs = true
  | [], _ => rfl
  | x :: xs, h => by rw [shortL, h x List.mem_cons_self, shortL_of (fun y m => h y (List.mem_cons_of_mem _ m))]; rfl
theorem MOk.short {z : Int} {rows : List Th} (ok : MOk z rows) : shortT (.tup [.int z, .tup rows]) = true := by
  have hr : shortL rows = true := shortL_of fun r m => by
    obtain ⟨e, ss, rfl, h1, h2, h3⟩ := rowB_is (ok.r r m)
    have hs : shortL ss = true := shortL_of fun st m => by
      rcases h3 st m with rfl | ⟨a, b, rfl, _⟩ <;> rfl
    have he : shortT e = true := by rcases h1 with rfl | ⟨i, rfl, _⟩ <;> rfl
    have hz := ok.z8
    simp only [shortT, shortL, he, hs, List.length_cons, List.length_nil, Bool.and_true]
    rw [decide_eq_true (by omega : ss.length ≤ 1000000)]
    rfl
  have hn := ok.n30
  simp only [shortT, shortL, hr, List.length_cons, List.length_nil, Bool.and_true]
  rw [decide_eq_true (by omega : rows.length ≤ 1000000)]
  rfl
theorem Lets.short {z : Int} {ls : List Th} (h : Lets z ls) (hl : ls.length ≤ 1000000) : shortT (.tup ls) = true := by
  rw [shortT, decide_eq_true hl]
  exact shortL_of fun l m => by obtain ⟨i, rfl, _⟩ := h l m; rfl
theorem Lets.text {z : Int} {ls : List Th} (h : Lets z ls) : textB z (.tup ls) = true := textB_of h
/-- whatever the zone -/
theorem At.any {Z : Zone} {H : Hp} {t : Th} {v : V} (h : At Z H t v) : At (fun _ => False) H t v := h.less fun _ f => f.elim
/-- what length tells of a machine and a text of its letters -/
theorem use_length {CM CT : Addr} {H : Hp} {Q : VK} {E : XK} {Z Z' : Zone} {u v : V} {z : Int} {rows ls : List Th} (hu : At Z H (.tup [.int z, .tup rows]) u) (hv : At Z' H (.tup ls) v) (ok : MOk z rows) (hl : Lets z ls) (l4 : ls.length ≤ 1000000)
    (q : ∀ H', Same H H' → Q (optV (lenT rows ls)) H') : spLength CM CT [u, v] H Q E :=
  ⟨fun _ => False, u, v, _, _, rfl, hu.any, hv.any, ok.short, hl.short l4, fun z' rows' ls' e1 _ e2 _ H' s' => by
    injection e1 with e1; injection e1 with _ e1; injection e1 with e1 _; injection e1 with e1
    injection e2 with e2
    subst e1 e2
    exact q H' s', fun z' rows' e1 _ tb => by
    injection e1 with e1; injection e1 with e0 e1; injection e0 with e0
    subst e0
    exact absurd (tb.symm.trans hl.text) (by decide), fun mb => absurd (mb.symm.trans ok.mach) (by decide)⟩
def ShortT (z : Int) (i : Nat) (t : Th) : Prop := ∃ ls, t = .tup ls ∧ Lets z ls ∧ ls.length ≤ i
def spShort : Sp := fun vs H Q _ => ∃ (z : Int), vs = [.int z, .int 200] ∧ 1 ≤ z ∧ z ≤ 8 ∧ ∀ D us ts H', Same H H' → H D = none → H' D = some (.lst us) → AtAll (Trk H) H' ts us → ts.length ≤ 2000 → (∀ t ∈ ts, ShortT z 8 t) → Q (.ref D) H'
section
variable {P : Program} {w : World} {K : PySem.W.Frag} {mg : Str → Option Value} {base : Heap} {k : Nat}
end
end KL
end
section
set_option maxHeartbeats 4000000
set_option exponentiation.threshold 2000
namespace KL
open PySem PySem.Spec PyProof.Rows L2
/-! ### things as the library's data -/
mutual
def py : Th → PyData
  | .non => .none
  | .bl b => .bool b
  | .int i => .int i
  | .str x => .str x
  | .lst xs => .list (pyL xs)
  | .tup xs => .tuple (pyL xs)
  | .dic xs => .dict [(.str "a", .list (pyL xs)), (.int 1, .none)]
def pyL : List Th → List PyData
  | [] => []
  | x :: xs => py x :: pyL xs
end
mutual
theorem py_bulk : ∀ t : Th, (py t).bulk = bk t
  | .non => rfl
  | .bl _ => rfl
  | .int _ => rfl
  | .str _ => rfl
  | .lst xs => pyL_bulk xs
  | .tup xs => pyL_bulk xs
  | .dic xs => by
    have h := pyL_bulk xs
    show (1 + PyData.bulkAll (pyL xs) + 2 + (0 + 0 + 2 + 0)) = bkL xs + 5
    omega
theorem pyL_bulk : ∀ ts : List Th, PyData.bulkAll (pyL ts) = bkL ts
  | [] => rfl
  | x :: xs => by
    show (py x).bulk + 1 + PyData.bulkAll (pyL xs) = bk x + 1 + bkL xs
    rw [py_bulk x, pyL_bulk xs]
end
theorem int_short {i : Int} {M : Nat} (hM : M < 10 ^ 30) (h : i.natAbs ≤ M) : (PyData.shown (.int i)).length ≤ 34 := by
  have e := int_text_length_le10 (a := i) (k := 30) (by decide) (show i.natAbs < 10 ^ 30 by omega)
  show (Str.ofString (toString i)).length ≤ 34
  rw [PySem.ofString_length]
  omega
mutual
theorem py_short {M : Nat} (hM : M < 10 ^ 30) : ∀ t : Th, lf M t = true → (py t).leavesShort 34 = true
  | .non, _ => by simp [py, PyData.leavesShort]
  | .bl _, _ => by simp [py, PyData.leavesShort]
  | .int i, h => by
    rw [lf, decide_eq_true_eq] at h
    rw [py, PyData.leavesShort]
    exact decide_eq_true (int_short hM h)
  | .str x, h => by
    rw [lf, List.all_eq_true] at h
    rw [py, PyData.leavesShort, List.all_eq_true]
    intro c hc
    have h2 := of_decide_eq_true (h c hc)
    exact decide_eq_true (Nat.lt_of_lt_of_le h2 (by decide))
  | .lst xs, h => by rw [py, PyData.leavesShort]; exact pyL_short hM xs h
  | .tup xs, h => by rw [py, PyData.leavesShort]; exact pyL_short hM xs h
  | .dic xs, h => by
    have h2 := pyL_short hM xs h
    rw [py]
    simp only [PyData.leavesShort, PyData.leavesShortKv, h2, Bool.and_true, Bool.true_and]
    decide
theorem pyL_short {M : Nat} (hM : M < 10 ^ 30) : ∀ ts : List Th, lfL M ts = true → PyData.leavesShortAll 34 (pyL ts) = true
  | [], _ => by simp [pyL, PyData.leavesShortAll]
  | x :: xs, h => by
    rw [lfL, Bool.and_eq_true] at h
    rw [pyL, PyData.leavesShortAll, py_short hM x h.1, pyL_short hM xs h.2]
    rfl
end
mutual
theorem py_showable {M : Nat} (hM : M < 10 ^ 30) : ∀ t : Th, lf M t = true → (py t).showable = true
  | .non, _ => by simp [py, PyData.showable]
  | .bl _, _ => by simp [py, PyData.showable]
  | .str _, _ => by simp [py, PyData.showable]
  | .int i, h => by
    rw [lf, decide_eq_true_eq] at h
    rw [py, PyData.showable]
    refine decide_eq_true ?_
    by_cases h0 : i.natAbs = 0
    · rw [h0]; decide
    · exact (Nat.log2_lt h0).mpr (Nat.lt_of_lt_of_le (show i.natAbs < 10 ^ 30 by omega) (by
        have : (10 : Nat) ^ 30 ≤ 2 ^ 100 := by decide
        exact Nat.le_trans this (Nat.pow_le_pow_right (by decide) (by decide))))
  | .lst xs, h => by rw [py, PyData.showable]; exact pyL_showable hM xs h
  | .tup xs, h => by rw [py, PyData.showable]; exact pyL_showable hM xs h
  | .dic xs, h => by
    have h2 := pyL_showable hM xs h
    rw [py]
    simp only [PyData.showable, PyData.showableKv, h2, Bool.and_true, Bool.true_and]
    decide
theorem pyL_showable {M : Nat} (hM : M < 10 ^ 30) : ∀ ts : List Th, lfL M ts = true → PyData.showableAll (pyL ts) = true
  | [], _ => by simp [pyL, PyData.showableAll]
  | x :: xs, h => by
    rw [lfL, Bool.and_eq_true] at h
    rw [pyL, PyData.showableAll, py_showable hM x h.1, pyL_showable hM xs h.2]
    rfl
end
mutual
theorem py_depth : ∀ t : Th, (py t).depth ≤ dp t
  | .non => Nat.le_refl _
  | .bl _ => Nat.le_refl _
  | .int _ => Nat.le_refl _
  | .str _ => Nat.le_refl _
  | .lst xs => Nat.succ_le_succ (pyL_depth xs)
  | .tup xs => Nat.succ_le_succ (pyL_depth xs)
  | .dic xs => by
    have h := pyL_depth xs
    rw [py]
    simp only [PyData.depth, PyData.depthKv, dp]
    omega
theorem pyL_depth : ∀ ts : List Th, PyData.depthAll (pyL ts) ≤ dpL ts
  | [] => Nat.le_refl _
  | x :: xs => by
    have h1 := py_depth x
    have h2 := pyL_depth xs
    show max (py x).depth (PyData.depthAll (pyL xs)) ≤ max (dp x) (dpL xs)
    omega
end
section
variable {X : Cx} {pins : List (Addr × Obj)} {σ : L2.St} {H : Hp} {s : Shared}
theorem not_sys (I : Inv X pins σ H s) (hb : ∃ o, X.base.get? sysModules = some o) {a : Addr} {o : HO} (e : H a = some o) : a ≠ sysModules := fun z => by
  obtain ⟨ob, hb⟩ := hb
  have n := (I.bs sysModules ob hb).2
  rw [← z, e] at n
  cases n
theorem dic_entries {P : Program} {w : World} {l : Addr} {es : List DictEntry} {kv : List (Key × Value)} (k : KV ([(Sum.inr ("a" : Str), V.ref l), (Sum.inl (1 : Int), V.non)] : List (Key × V)) kv) (p : Pairs (mixKind P w) es kv) :
    ∃ d1 d2 t1 t2, es = [d1, d2] ∧ d1.key = .str "a" t1 ∧ d1.val = .ref l ∧ d2.key = .int 1 t2 ∧ d2.val = .none := by
  match kv, k with
  | [(k1, v1), (k2, v2)], .cons a1 (.cons a2 .nil) =>
    obtain ⟨b1, c1⟩ := a1
    obtain ⟨b2, c2⟩ := a2
    match es, p with
    | [d1, d2], .cons p1 q1 (.cons p2 q2 .nil) =>
      have p1' : keyIs k1 d1.key = true := p1
      have p2' : keyIs k2 d2.key = true := p2
      have b1' : Sum.inr ("a" : Str) = k1 := b1
      have b2' : Sum.inl (1 : Int) = k2 := b2
      subst b1' b2'
      rcases keyIs_shape p1' with ⟨i, t, e1, _⟩ | ⟨x, t1, e1, f1⟩
      · cases e1
      · rcases keyIs_shape p2' with ⟨i, t2, e2, f2⟩ | ⟨x, t, e2, _⟩
        · cases e1
          cases e2
          exact ⟨d1, d2, t1, t2, rfl, f1, q1.trans c1, f2, q2.trans c2⟩
        · cases e2
mutual
theorem At.reads (I : Inv X pins σ H s) (hb : ∃ o, X.base.get? sysModules = some o) {Z : Zone} : ∀ (t : Th) (v : V) (u : Value), At Z H t v → RelV v u → ∃ as, Reads s.heap u (py t) as ∧ sysModules ∉ as
  | .non, _, _, h, r => by
    cases h; cases r
    exact ⟨_, Reads.none, by simp⟩
  | .bl b, _, _, h, r => by
    cases h; cases r
    exact ⟨_, Reads.bool b, by simp⟩
  | .int i, _, _, h, r => by
    cases h
    obtain ⟨t, rfl⟩ := r
    exact ⟨_, Reads.int i t, by simp⟩
  | .str x, _, _, h, r => by
    cases h
    obtain ⟨t, rfl⟩ := r
    exact ⟨_, Reads.str x t, by simp⟩
  | .lst xs, _, _, h, r => by
    obtain ⟨a, vs, rfl, _, e, ha⟩ := h
    cases r
    obtain ⟨its, rv, ⟨o, n, ho, hc, _, hd⟩, _⟩ := I.list (SqL.of e)
    obtain ⟨as, hr, hn⟩ := AtAll.reads I hb xs vs its ha rv
    exact ⟨_, Reads.list ho hc hd hr, fun m => (List.mem_cons.mp m).elim (fun z => not_sys I hb e z.symm) hn⟩
  | .tup xs, _, _, h, r => by
    obtain ⟨a, vs, rfl, _, e, ha⟩ := h
    cases r
    obtain ⟨its, rv, ⟨o, ho, hc, n, hd⟩, _⟩ := I.tuple (SqT.of e)
    obtain ⟨as, hr, hn⟩ := AtAll.reads I hb xs vs its ha rv
    exact ⟨_, Reads.tuple ho hc hd hr, hn⟩
  | .dic xs, _, _, h, r => by
    obtain ⟨a, l, vs, rfl, _, _, e, el, ha⟩ := h
    cases r
    obtain ⟨its, rv, ⟨o, n, ho, hc, _, hd⟩, _⟩ := I.list (SqL.of el)
    obtain ⟨as, hr, hn⟩ := AtAll.reads I hb xs vs its ha rv
    obtain ⟨_, gs, ps, kv, od, es, ep, g1, g2, g3, g5, g4, g6⟩ := (show ObjOk X.prog X.w H s.heap a (.dK [(Sum.inr "a", .ref l), (Sum.inl 1, .non)]) from I.hok a _ e)
    obtain ⟨d1, d2, t1, t2, ee, e1, e2, e3, e4⟩ := dic_entries kv g4
    have na : sysModules ≠ a := fun z => not_sys I hb e z.symm
    have nl : sysModules ≠ l := fun z => not_sys I hb el z.symm
    refine ⟨_, Reads.dict (kvs := [(.str "a", .list (pyL xs)), (.int 1, .none)]) g1 g2.1 g3 (by rw [ee]; show ReadsAll s.heap [d1.key, d2.key] [.str "a", .int 1] _; rw [e1, e3]; exact ReadsAll.cons (Reads.str _ _) (ReadsAll.cons (Reads.int _ _) ReadsAll.nil))
      (by rw [ee]; show ReadsAll s.heap [d1.val, d2.val] [.list (pyL xs), .none] _; rw [e2, e4]; exact ReadsAll.cons (Reads.list ho hc hd hr) (ReadsAll.cons Reads.none ReadsAll.nil)), ?_⟩
    intro m
    simp only [List.nil_append, List.append_nil, List.cons_append, List.mem_cons] at m
    rcases m with z | z | z
    · exact na z
    · exact nl z
    · exact hn z
theorem AtAll.reads (I : Inv X pins σ H s) (hb : ∃ o, X.base.get? sysModules = some o) {Z : Zone} : ∀ (ts : List Th) (vs : List V) (us : List Value), AtAll Z H ts vs → Vals vs us → ∃ as, ReadsAll s.heap us (pyL ts) as ∧ sysModules ∉ as
  | [], _, _, h, r => by
    cases (show _ = [] from h)
    cases r
    exact ⟨_, ReadsAll.nil, by simp⟩
  | x :: xs, _, _, h, r => by
    obtain ⟨u, us, rfl, h1, h2⟩ := h
    cases r with
    | cons r1 r2 =>
      obtain ⟨as, q1, n1⟩ := At.reads I hb x _ _ h1 r1
      obtain ⟨bs, q2, n2⟩ := AtAll.reads I hb xs _ _ h2 r2
      exact ⟨_, ReadsAll.cons q1 q2, fun m => (List.mem_append.mp m).elim n1 n2⟩
end
/-- repr of a thing -/
theorem call_reprT (hg : X.A.guards = some []) (hu : X.A.units + 64 < cLine) (hb : ∃ o, X.base.get? sysModules = some o) :
    CallR X (.builtin "repr") (fun xs H Q => ∃ Z t v B M D, xs = [v] ∧ At Z H t v ∧ Gd B M D t ∧ B ≤ 400000 ∧ M < 10 ^ 30 ∧ D ≤ 60 ∧ Q (.str (py t).shown) H) := by
  intro pins s σ H xs us Q I r h
  obtain ⟨Z, t, v, B, M, D, rfl, h, g, hB, hM, hD, q⟩ := h
  obtain ⟨u, rfl, ru⟩ := vals1 r
  have sz : (py t).shown.length ≤ sizeLine := by
    have a1 := PyData.shown_le_bulk 34 (by decide) (py t) (py_short hM t g.m)
    rw [py_bulk] at a1
    have a2 := g.b
    rw [sizeLine_eq]
    have a3 : (34 + 2) * bk t ≤ 36 * 400000 := Nat.mul_le_mul (Nat.le_refl _) (by omega)
    omega
  have fin : ∀ tk, EP X pins σ Q (.str (py t).shown tk) { s with toks := tk + 1 } := fun tk => ⟨.str _, H, I.tok _, ⟨_, rfl⟩, q⟩
  have obj : ∀ a, u = .ref a → wpAny (model X.prog X.w) X.A (call (.builtin "repr") [u]) (EP X pins σ Q) X.xe s := fun a ea => by
    obtain ⟨as, hr, hn⟩ := At.reads I hb t v u h ru
    subst ea
    have dd := py_depth t
    have d2 := g.d
    exact repr_of_reads' hr (py_showable hM t g.m) (fun _ => hn) hg (by omega) (fun _ _ e => e) (fun h' tk1 tk2 kp => ⟨.str _, H, I.kept kp, ⟨_, rfl⟩, q⟩) sz
  cases t with
  | non =>
    cases h; cases ru
    exact PySem.P.repr_of_none (fin _)
  | bl b =>
    cases h; cases ru
    refine PySem.P.repr_of_bool ?_
    have f := fin s.toks
    rw [show (py (.bl b)).shown = (if b then ("True" : Str) else "False") by rw [py, PyData.shown]] at f
    exact f
  | int i =>
    cases h
    obtain ⟨tk, rfl⟩ := ru
    have m := g.m
    have f := fin s.toks
    rw [show (py (.int i)).shown = (toString i : String) by rw [py, PyData.shown]] at f
    exact PySem.P.repr_of_int (by
      have e := py_showable hM (.int i) m
      rw [py, PyData.showable] at e
      exact of_decide_eq_true e) f
  | str x =>
    cases h
    obtain ⟨tk, rfl⟩ := ru
    have f := fin s.toks
    rw [show (py (.str x)).shown = reprText x by rw [py, PyData.shown]] at f sz
    exact PySem.P.repr_of_str f sz
  | lst xs =>
    obtain ⟨a, vs, rfl, _⟩ := id h
    exact obj a ru
  | tup xs =>
    obtain ⟨a, vs, rfl, _⟩ := id h
    exact obj a ru
  | dic xs =>
    obtain ⟨a, l, vs, rfl, _⟩ := id h
    exact obj a ru
end
end KL
end
section
set_option maxHeartbeats 1000000
namespace KL
open PySem PySem.Spec PyProof.Rows L2
/-! ### things as data that are compared -/
theorem layL : ∀ {xs : List Th}, (∀ x ∈ xs, (py x).canLay0 = true) → PyData.canLayAll0 (pyL xs) = true
  | [], _ => by rw [pyL]; simp only [PyData.canLayAll0]
  | x :: xs, h => by
    rw [pyL]
    simp only [PyData.canLayAll0]
    rw [h x List.mem_cons_self, layL (fun y m => h y (List.mem_cons_of_mem _ m))]
    rfl
theorem lay_tup {xs : List Th} (h : ∀ x ∈ xs, (py x).canLay0 = true) : (py (.tup xs)).canLay0 = true := by
  rw [py]
  simp only [PyData.canLay0]
  exact layL h
theorem lay_int (i : Int) : (py (.int i)).canLay0 = true := by rw [py]; simp only [PyData.canLay0]
theorem lay_non : (py .non).canLay0 = true := by rw [py]; simp only [PyData.canLay0]
theorem StepIs.lay {n : Int} {st : Th} (h : StepIs n st) : (py st).canLay0 = true := by
  rcases h with rfl | ⟨m, s, rfl, _⟩
  · exact lay_non
  · exact lay_tup fun x m => by
      rcases List.mem_cons.mp m with rfl | m
      · exact lay_int _
      · rw [List.mem_singleton.mp m]; exact lay_int _
theorem MOk.lay {z : Int} {rows : List Th} (ok : MOk z rows) : (py (.tup [.int z, .tup rows])).canLay0 = true :=
  lay_tup fun x m => by
    rcases List.mem_cons.mp m with rfl | m
    · exact lay_int _
    · rw [List.mem_singleton.mp m]
      refine lay_tup fun r mr => ?_
      obtain ⟨e, ss, rfl, h1, h2, h3⟩ := rowB_is (ok.r r mr)
      refine lay_tup fun x m => ?_
      rcases List.mem_cons.mp m with rfl | m
      · rcases h1 with rfl | ⟨i, rfl, _⟩
        · exact lay_non
        · exact lay_int _
      · rw [List.mem_singleton.mp m]
        exact lay_tup fun st mst => (h3 st mst).lay
theorem StepIs.gd {st : Th} (h : StepIs 30 st) : Gd 2 60 1 st := by
  rcases h with rfl | ⟨m, s, rfl, m0, m1, s0, s1⟩
  · exact (Gd.non (M := 60)).weak ⟨by omega, by omega, by omega⟩
  · exact (Gd.tup (GdL.cons (Gd.int (M := 60) (by omega)) (GdL.cons (Gd.int (by omega)) GdL.nil))).weak ⟨by omega, by omega, by omega⟩
theorem StepIs.up {n m : Int} {st : Th} (h : StepIs n st) (l : n ≤ m) : StepIs m st := by
  rcases h with rfl | ⟨a, s, rfl, m0, m1, s0, s1⟩
  · exact .inl rfl
  · exact .inr ⟨a, s, rfl, m0, m1, s0, by omega⟩
theorem MOk.gd {z : Int} {rows : List Th} (ok : MOk z rows) : Gd 1000 60 5 (.tup [.int z, .tup rows]) := by
  have n30 := ok.n30
  have z1 := ok.z1
  have z8 := ok.z8
  have gR : ∀ r ∈ rows, Gd 26 60 3 r := fun r mr => by
    obtain ⟨e, ss, rfl, h1, h2, h3⟩ := rowB_is (ok.r r mr)
    have gS : GdL (8 * (2 + 1)) 60 1 ss := GdL.all (fun st ms => ((h3 st ms).up (by omega)).gd) (by omega)
    have gE : Gd 0 60 0 e := by
      rcases h1 with rfl | ⟨i, rfl, i1, i2⟩
      · exact Gd.non
      · exact Gd.int (by omega)
    exact (Gd.tup (GdL.cons (gE.mono (Nat.le_refl _) (Nat.le_refl _) (by omega : 0 ≤ 2)) (GdL.cons (Gd.tup gS) GdL.nil))).weak ⟨by omega, by omega, by omega⟩
  have g1 : GdL (30 * (26 + 1)) 60 3 rows := GdL.all gR n30
  exact (Gd.tup (GdL.cons ((Gd.int (M := 60) (by omega)).mono (Nat.le_refl _) (Nat.le_refl _) (by omega : 0 ≤ 4)) (GdL.cons (Gd.tup g1) GdL.nil))).weak ⟨by omega, by omega, by omega⟩
mutual
theorem At.dp {K : PySem.W.Frag} {Z : Zone} {H : Hp} : ∀ (t : Th) (v : V), At Z H t v → (py t).canLay0 = true → Dp K H v (py t)
  | .non, _, h, _ => by cases h; exact .non
  | .bl b, _, h, _ => by cases h; exact .bl b
  | .int i, _, h, _ => by cases h; exact .int i
  | .str x, _, h, _ => by cases h; exact .str x
  | .lst xs, _, h, l => by
    obtain ⟨a, vs, rfl, _, e, ha⟩ := h
    rw [py] at l ⊢
    simp only [PyData.canLay0] at l
    exact .lst (.of e) (AtAll.dp xs vs ha l)
  | .tup xs, _, h, l => by
    obtain ⟨a, vs, rfl, _, e, ha⟩ := h
    rw [py] at l ⊢
    simp only [PyData.canLay0] at l
    exact .tup (.of e) (AtAll.dp xs vs ha l)
  | .dic xs, _, h, l => by
    rw [py] at l
    simp only [PyData.canLay0] at l
    cases l
theorem AtAll.dp {K : PySem.W.Frag} {Z : Zone} {H : Hp} : ∀ (ts : List Th) (vs : List V), AtAll Z H ts vs → PyData.canLayAll0 (pyL ts) = true → DpAll K H vs (pyL ts)
  | [], _, h, _ => by cases (show _ = [] from h); rw [pyL]; exact .nil
  | x :: xs, _, h, l => by
    obtain ⟨u, us, rfl, h1, h2⟩ := h
    rw [pyL] at l ⊢
    simp only [PyData.canLayAll0, Bool.and_eq_true] at l
    exact .cons (At.dp x u h1 l.1) (AtAll.dp xs us h2 l.2)
end
theorem shaped_th {t : Th} (l : (py t).canLay0 = true) (d : dp t ≤ 64) : SeqAt.shaped (py t) = true := by
  unfold SeqAt.shaped
  rw [l, Bool.true_and]
  exact decide_eq_true (Nat.le_trans (py_depth t) d)
/-- equal things are told equal -/
theorem eq_things {K : PySem.W.Frag} {Z Z' : Zone} {H : Hp} {t : Th} {u v : V} {R : Bool → Prop} (hu : At Z H t u) (hv : At Z' H t v) (l : (py t).canLay0 = true) (d : dp t ≤ 64) (q : R true) :
    ∃ d e, Dp K H u d ∧ Dp K H v e ∧ SeqAt.shaped d = true ∧ SeqAt.shaped e = true ∧ R (PyData.eqv d e) :=
  ⟨_, _, At.dp t u hu l, At.dp t v hv l, shaped_th l d, shaped_th l d, by rw [SeqAt.eqv_refl _ l]; exact q⟩
def zOf : Th → Int
  | .tup [z, _] => num z
  | _ => 0
def rowsOf : Th → List Th
  | .tup [_, .tup rows] => rows
  | _ => []
noncomputable def toldTh (e : Th) : Th := if machB e = true then .tup [.str "told", trimT (zOf e) (rowsOf e)] else .tup [.str "machine", .non]
def spToldT : Sp := fun vs H Q _ => ∃ (Z : Zone) (u : V) (e : Th), vs = [u] ∧ At Z H e u ∧ shortT e = true ∧ ∀ v H', Same H H' → At (Trk H) H' (toldTh e) v → Q v H'
def spGone : Sp := fun vs H Q _ => ∃ (Z : Zone) (u : V) (z : Int) (rows : List Th), vs = [u] ∧ At Z H (.tup [.int z, .tup rows]) u ∧ MOk z rows ∧ (∀ s, s < rows.length → lv rows s) ∧ ∀ H', Same H H' → Q (.bl true) H'
section
variable {P : Program} {w : World} {K : PySem.W.Frag} {mg : Str → Option Value} {base : Heap} {k : Nat}
end
end KL
end
section
set_option maxHeartbeats 1000000
namespace KL
open PySem PySem.Spec PyProof.Rows L2 TL
structure Ds (mg : Str → Option Value) (t : Tok) : Prop where
  DIGITS : mg "DIGITS" = some (.str "0123456789" t)
abbrev sc_read_digitsN : List Str := ["word", "sign"]
abbrev s_read_digits : Stmt := topS 24
theorem sc_read_digits : FnScope ["word", "sign"] ["word"] (defScope s_read_digits) := ⟨rfl, rfl, rfl, by decide +kernel, rfl, by decide +kernel, by decide +kernel⟩
abbrev sc_read_stepN : List Str := ["word", "more", "_", "state"]
abbrev s_read_step : Stmt := topS 23
theorem sc_read_step : FnScope ["word", "more", "_", "state"] ["word"] (defScope s_read_step) := ⟨rfl, rfl, rfl, by decide +kernel, rfl, by decide +kernel, by decide +kernel⟩
abbrev sc_read_rowN : List Str := ["line", "end", "steps", "word"]
abbrev s_read_row : Stmt := topS 22
theorem sc_read_row : FnScope ["line", "end", "steps", "word"] ["line"] (defScope s_read_row) := ⟨rfl, rfl, rfl, by decide +kernel, rfl, by decide +kernel, by decide +kernel⟩
def spDig : Sp := fun vs H Q _ => ∃ x : Str, vs = [.str x] ∧ x.length ≤ 1000000 ∧ ∀ v H', Same H H' → (∀ Z, At Z H' (digR (tl x)) v) → Q v H'
def spStepR : Sp := fun vs H Q _ => ∃ x : Str, vs = [.str x] ∧ x.length ≤ 1000000 ∧ ∀ v H', Same H H' → At (Trk H) H' (stepR (tl x)) v → Q v H'
def spRowR : Sp := fun vs H Q _ => ∃ x : Str, vs = [.str x] ∧ x.length ≤ 900000 ∧ ∀ v H', Same H H' → At (Trk H) H' (rowR (tl x)) v → Q v H'
theorem digits_tl : (("0123456789" : Str)).cps.toList = [48, 49, 50, 51, 52, 53, 54, 55, 56, 57] := by decide +kernel
theorem AtAll.ints {Z : Zone} {H : Hp} {t : Th} {v : V} (h : At Z H t v) (hl : t = .non ∨ ∃ i : Nat, t = .int (i : Nat)) : ∀ Z, At Z H t v := fun Z' => by
  rcases hl with rfl | ⟨i, rfl⟩ <;> exact h
section
variable {P : Program} {w : World} {K : PySem.W.Frag} {mg : Str → Option Value} {base : Heap} {k : Nat}
theorem ok_read_digits {td : Tok} (Z : Zs mg) (D : Ds mg td) (d : Def K mg "read_digits" s_read_digits ["word"]) : Cal P w K mg base CX0 (k + 1) "read_digits" ["word"] spDig := by
  refine d.ok sc_read_digits (fun vs H Q E h => ?_) (fun f cdv A outer s H vs Q E hr h => ?_)
  · obtain ⟨_, rfl, _⟩ := h; rfl
  obtain ⟨x, rfl, sx, q⟩ := h
  refine ⟨_, (pss_cons (ps_if (PW.pt (pw_or (pt_not (pt_chain op_le op_le pe_int (pe_callB (id := "len") call_len_str (by rfl) Z.len (by decide +kernel) (pa_cons (pv 0) pa_nil)) pe_int)) (pw_or1 (pt_not (pt_val (pe_callB (id := "all") (cr_all rfl) (by rfl) Z.all (by decide +kernel) (pa_cons (pe_lc (own := [("sign", 1)]) (g := gName 1) (tt := tYes) rfl sc_read_digits.nd (pi_str (pv 0)) (blkOk_by (N := ["word", "sign"]) (sc := defScope s_read_digits) (by decide +kernel)) (fun _ _ _ _ _ => (pg_name (i := 1) sc_read_digits.nd rfl (Or.inl rfl))) (fun _ _ _ _ _ => pts_nil) (fun _ _ _ _ _ => (pe_cmpR op_in_sign (pv 1) (pe_glob (v := .str "0123456789") (by rfl) D.DIGITS ⟨_, rfl⟩) (by rfl)))) pa_nil))))))) (pss_one (ps_ret pe_non)) pss_nil)
      (pss_one (ps_ret (pe_callTy (T := "int") call_int_str (by rfl) Z.int (by decide +kernel) (pa_cons (pv 0) pa_nil))))), ?_⟩
  have lx : x.length ≤ sizeLine := by rw [sizeLine_eq]; omega
  have lt := len_tl x
  have no : ∀ H', Same H H' → digOk (tl x) = false → Q .non H' := fun H' s' e => by
    refine q .non H' s' fun Z => ?_
    rw [digR, if_neg (by rw [e]; exact Bool.false_ne_true)]
    rfl
  refine rd_ifs (!digOk (tl x)) (fun R hR => ?_) (fun H2 s2 e => ?_) (fun H2 s2 e => ?_)
  · have bad : digOk (tl x) = false → R true H := fun e => by
      have := hR H (Same.refl H)
      rwa [e] at this
    refine ⟨_, rfl, x, rfl, lx, _, _, rfl, rfl, _, rfl, ?_⟩
    by_cases h1 : (1 : Int) ≤ (x.length : Int)
    · rw [decide_eq_true h1]
      refine iteT ⟨_, _, rfl, rfl, _, rfl, ?_⟩
      by_cases h2 : (x.length : Int) ≤ 2
      · rw [decide_eq_true h2]
        refine iteF ?_
        refine ⟨_, rfl, x, rfl, lc_blS (f := isDg) (by rw [← Str.length]; omega) (fun _ => rfl) (fun c H2 s2 R2 hR2 => ?_) (fun D H4 s4 hD eD => ⟨D, _, rfl, .of eD, ?_⟩)⟩
        · refine ⟨_, rfl, c, _, rfl, rfl, ?_⟩
          rw [digits_tl]
          exact hR2 H2 (Same.refl H2)
        · have e : digOk (tl x) = (((x.cps.toList.map isDg).all id)) := by
            unfold digOk
            rw [decide_eq_true (show 1 ≤ (tl x).length by omega), decide_eq_true (show (tl x).length ≤ 2 by omega), List.all_map]
            rfl
          have := hR H4 s4
          rw [e] at this
          exact ⟨_, rfl, this⟩
      · rw [decide_eq_false h2]
        refine iteT (bad ?_)
        unfold digOk
        rw [decide_eq_false (show ¬ (tl x).length ≤ 2 by omega), Bool.and_false, Bool.false_and]
    · rw [decide_eq_false h1]
      refine iteF ⟨_, rfl, iteT (bad ?_)⟩
      unfold digOk
      rw [decide_eq_false (show ¬ 1 ≤ (tl x).length by omega), Bool.false_and, Bool.false_and]
  · exact no H2 s2 (not_true e)
  · have ok := not_false' e
    obtain ⟨ad, l1, l2⟩ := digOk_all ok
    refine ⟨_, rfl, x, _, rfl, intText_digits (x := x) ad (fun e => ?_) (by omega), by omega, ?_⟩
    · rw [show tl x = [] from e] at l1; exact absurd l1 (by decide)
    · refine q _ H2 s2 fun Z => ?_
      rw [digR, if_pos ok]
      rfl
theorem part_cut (x : Str) : tl (Txt.partition x ":").1 = (cutC (tl x)).1 ∧ tl (Txt.partition x ":").2.2 = (cutC (tl x)).2 := by
  have h0 : tl (":" : Str) = [58] := by decide +kernel
  rw [partition_par x ":" (by rw [h0]; exact List.cons_ne_nil _ _), h0]
  unfold cutC
  cases e : par [58] [] (tl x) with
  | none => exact ⟨rfl, rfl⟩
  | some p => exact ⟨rfl, rfl⟩
theorem eq_tl (x y : Str) : decide (V.str x = V.str y) = decide (tl x = tl y) := by
  rw [strV]
  exact decide_eq_decide.mpr ⟨fun e => by rw [e], ext_tl⟩
theorem ok_read_step (c_read_digits : Cal P w K mg base CX0 k "read_digits" ["word"] spDig) (d : Def K mg "read_step" s_read_step ["word"]) : Cal P w K mg base CX0 (k + 1) "read_step" ["word"] spStepR := by
  refine d.ok sc_read_step (fun vs H Q E h => ?_) (fun f cdv A outer s H vs Q E hr h => ?_)
  · obtain ⟨_, rfl, _⟩ := h; rfl
  obtain ⟨x, rfl, sx, q⟩ := h
  refine ⟨_, (pss_cons (ps_asg (pe_partition (pv 0) pe_str) (pg_tup (by rfl) (pgs_cons (pg_name (i := 1) sc_read_step.nd rfl (Or.inl rfl)) (pgs_cons (pg_name (i := 2) sc_read_step.nd rfl (Or.inl rfl)) (pgs_cons (pg_name (i := 3) sc_read_step.nd rfl (Or.inl rfl)) pgs_nil)))))
      (pss_one (ps_ret (pe_ifExp (pt_cmpR op_eq (pv 0) pe_str (nomark _)) pe_non (pe_tup (pa_cons (pe_cal c_read_digits hr (by rfl) (pa_cons (pv 1) pa_nil)) (pa_cons (pe_cal c_read_digits hr (by rfl) (pa_cons (pv 3) pa_nil)) pa_nil))))))), ?_⟩
  have lx : x.length ≤ sizeLine := by rw [sizeLine_eq]; omega
  have lt := len_tl x
  obtain ⟨pc1, pc2⟩ := part_cut x
  obtain ⟨lc1, lc2⟩ := cutC_le (tl x)
  generalize eP : Txt.partition x ":" = P3 at pc1 pc2
  obtain ⟨a, m, b⟩ := P3
  have la : a.length ≤ 1000000 := by rw [len_tl, show tl a = _ from pc1]; omega
  have lb : b.length ≤ 1000000 := by rw [len_tl, show tl b = _ from pc2]; omega
  refine ⟨_, rfl, ⟨_, rfl⟩, _, _, rfl, rfl, by decide +kernel, lx, fun p np => ?_⟩
  rw [eP]
  have y1 := same_new np (.tup [.str a, .str m, .str b])
  refine ⟨p, _, rfl, .of upd_same, rfl, _, _, rfl, _, _, rfl, _, _, rfl, rfl, ?_⟩
  refine ⟨_, rfl, rfl, _, rfl, ?_⟩
  have e45 : tl ("-" : Str) = [45] := by decide +kernel
  rw [eq_tl, e45]
  by_cases h : tl x = [45]
  · rw [decide_eq_true h]
    refine iteT (q _ _ y1 ?_)
    rw [stepR, if_pos h]
    rfl
  · rw [decide_eq_false h]
    refine iteF ?_
    refine ⟨_, rfl, a, rfl, la, fun v1 H1 s1 a1 => ⟨_, rfl, b, rfl, lb, fun v2 H2 s2 a2 => ⟨(by show 2 ≤ sizeLine; decide), fun p2 np2 => ?_⟩⟩⟩
    have y2 := same_new np2 (.tup [v1, v2])
    have s12 := y1.trans (s1.trans s2)
    refine q _ _ (s12.trans y2) ?_
    rw [stepR, if_neg h, ← pc1, ← pc2]
    exact ⟨p2, _, rfl, fun t => Trk.not np2 (Trk.same s12 t), upd_same, .cons (((a1 _).same s2).same y2) (.cons ((a2 _).same y2) .nil)⟩
theorem split_spl1 (x : Str) (c : Nat) (y : Str) (hy : tl y = [c]) (hc : c < 256) : (Txt.split x y).map tl = spl [c] 0 [] (tl x) := by
  have h := split_spl x y (by rw [hy]; exact List.cons_ne_nil _ _) (kind_ok ?_)
  · rw [hy] at h; exact h
  · have e : y = ⟨#[c]⟩ := ext_tl (by rw [hy])
    subst e
    simp [hc]
theorem strs_get {ys : List Str} {j : Nat} {x : V} (h : (ys.map V.str)[j]? = some x) : ∃ y, ys[j]? = some y ∧ x = .str y := map_get h
theorem ok_read_row (Z : Zs mg) (c_read_digits : Cal P w K mg base CX0 k "read_digits" ["word"] spDig) (c_read_step : Cal P w K mg base CX0 k "read_step" ["word"] spStepR) (d : Def K mg "read_row" s_read_row ["line"]) : Cal P w K mg base CX0 (k + 1) "read_row" ["line"] spRowR := by
  refine d.ok sc_read_row (fun vs H Q E h => ?_) (fun f cdv A outer s H vs Q E hr h => ?_)
  · obtain ⟨_, rfl, _⟩ := h; rfl
  obtain ⟨x, rfl, sx, q⟩ := h
  refine ⟨_, (pss_cons (ps_asg (pe_split (pv 0) pe_str) (pg_star (by rfl) (pgs_cons (pg_name (i := 1) sc_read_row.nd rfl (Or.inl rfl)) (pgs_star (pg_name (i := 2) sc_read_row.nd rfl (Or.inl rfl))))))
      (pss_one (ps_ret (pe_tup (pa_cons (pe_cal c_read_digits hr (by rfl) (pa_cons (pv 1) pa_nil)) (pa_cons (pe_callTy (T := "tuple") call_tuple_of (by rfl) Z.tuple (by decide +kernel) (pa_cons (pe_lc (own := [("word", 3)]) (g := gName 3) (tt := tYes) rfl sc_read_row.nd (pi_list (pv 2)) (blkOk_by (N := ["line", "end", "steps", "word"]) (sc := defScope s_read_row) (by decide +kernel)) (fun _ _ _ _ _ => (pg_name (i := 3) sc_read_row.nd rfl (Or.inl rfl))) (fun _ _ _ _ _ => pts_nil) (fun _ _ _ _ _ => (pe_cal c_read_step hr (by rfl) (pa_cons (pv 3) pa_nil)))) pa_nil)) pa_nil)))))), ?_⟩
  have lt := len_tl x
  have es := split_spl1 x 32 " " (by decide +kernel) (by omega)
  obtain ⟨ll, lp⟩ := spl_le [32] (tl x) []
  rw [← es, List.length_map] at ll
  rw [← es] at lp
  have eR : rowR (tl x) = (match (Txt.split x " ").map tl with | e :: ss => .tup [digR e, .tup (ss.map stepR)] | [] => .non) := by rw [es]; rfl
  cases eS : Txt.split x " " with
  | nil => exact absurd (by rw [← es, eS]; rfl) (spl_ne [32] (tl x) [])
  | cons e ss =>
  rw [eS] at ll lp eR
  rw [List.length_cons] at ll
  have lw : ∀ y ∈ e :: ss, y.length ≤ 1000000 := fun y m => by
    have := lp (tl y) (List.mem_map.mpr ⟨y, m, rfl⟩)
    rw [List.length_nil] at this
    rw [len_tl]; omega
  refine ⟨_, rfl, ⟨_, rfl⟩, _, _, rfl, rfl, by decide +kernel, by rw [sizeLine_eq]; omega, fun p np => ?_⟩
  rw [eS]
  have y1 := same_new np (.lst ((e :: ss).map V.str))
  refine ⟨p, .str e, ss.map V.str, rfl, .of upd_same, fun D nD => ?_⟩
  have y2 := same_new nD (.lst (ss.map V.str))
  refine ⟨_, _, rfl, _, _, rfl, rfl, ?_⟩
  refine ⟨_, rfl, e, rfl, lw e List.mem_cons_self, fun v1 H1 s1 a1 => ?_⟩
  have eD := s1 _ _ (upd_same (H := upd H p (.lst ((e :: ss).map V.str))) (a := D) (o := .lst (ss.map V.str)))
  have s01 := y1.trans (y2.trans s1)
  refine ⟨_, rfl, D, rfl, ⟨_, .of eD⟩, lc_newW (f := fun j => stepR (tl ((ss[j]?).getD Str.empty))) walk_list (fun _ _ _ _ h => h) (fun H' s' => .of (s' _ _ eD)) (by rw [List.length_map]; omega) (fun _ => rfl) (fun j x H2 hj ex s2 R hR => ?_) (fun D2 H4 vs4 s4 hD eD2 aD => ?_)⟩
  · obtain ⟨y, ey, rfl⟩ := strs_get ex
    refine ⟨_, rfl, y, rfl, lw y (List.mem_cons_of_mem _ (List.mem_of_getElem? ey)), fun v' H3 s3 a3 => hR v' H3 s3 ?_⟩
    rw [ey]
    exact a3
  · refine ⟨D2, vs4, rfl, .inl ⟨.of eD2, fun p5 n5 => ?_⟩⟩
    have z5 := same_new n5 (.tup vs4)
    refine ⟨(by show 2 ≤ sizeLine; decide), fun p6 n6 => ?_⟩
    have z6 := same_new n6 (.tup [v1, .ref p5])
    have s6 := s4.trans (z5.trans z6)
    refine q _ _ (s01.trans s6) ?_
    rw [eR]
    refine ⟨p6, _, rfl, fun t => Trk.not n6 (Trk.same (s01.trans (s4.trans z5)) t), upd_same, .cons ((a1 _).same s6) (.cons ⟨p5, vs4, rfl, fun t => Trk.not n5 (Trk.same (s01.trans s4) t), z6 _ _ upd_same, ?_⟩ .nil)⟩
    rw [List.length_map, range_map_get (fun y => stepR (tl y))] at aD
    have := ((aD.less fun a h => .inr (Trk.same s01 h)).same z5).same z6
    rw [List.map_map]
    exact this
end
end KL
end
section
set_option maxHeartbeats 1000000
namespace KL
open PySem PySem.Spec PyProof.Rows L2 TL
abbrev sc_row_textN : List Str := ["row", "end", "steps", "words", "step"]
abbrev s_row_text : Stmt := topS 21
theorem sc_row_text : FnScope ["row", "end", "steps", "words", "step"] ["row"] (defScope s_row_text) := ⟨rfl, rfl, rfl, by decide +kernel, rfl, by decide +kernel, by decide +kernel⟩
abbrev sc_machine_textN : List Str := ["machine", "size", "rows", "row"]
abbrev s_machine_text : Stmt := topS 19
theorem sc_machine_text : FnScope ["machine", "size", "rows", "row"] ["machine"] (defScope s_machine_text) := ⟨rfl, rfl, rfl, by decide +kernel, rfl, by decide +kernel, by decide +kernel⟩
abbrev sc_read_machineN : List Str := ["text", "head", "rows", "found", "line"]
abbrev s_read_machine : Stmt := topS 20
theorem sc_read_machine : FnScope ["text", "head", "rows", "found", "line"] ["text"] (defScope s_read_machine) := ⟨rfl, rfl, rfl, by decide +kernel, rfl, by decide +kernel, by decide +kernel⟩
theorem tl_int {i : Int} (h : 0 ≤ i) : tl (Str.ofString (toString i)) = numL i.toNat := by
  have e : i = ((i.toNat : Nat) : Int) := by omega
  rw [e, tl_num]
  rfl
theorem tl_join' (y : Str) (ps : List Str) : tl (Txt.join y ps) = joinL (tl y) (ps.map tl) := by rw [join_eq, tl_join]
theorem sum_le {ws : List Str} {b : Nat} (h : ∀ w ∈ ws, w.length ≤ b) : (ws.map (·.length)).sum ≤ ws.length * b := by
  induction ws with
  | nil => exact Nat.zero_le _
  | cons w ws ih =>
    have h1 := h w List.mem_cons_self
    have h2 := ih fun x m => h x (List.mem_cons_of_mem _ m)
    rw [List.map_cons, List.sum_cons, List.length_cons, Nat.add_mul, Nat.one_mul]
    omega
theorem log_small {i : Int} (h : i.natAbs ≤ 1000) : i.natAbs.log2 < 1920 := by
  have : i.natAbs.log2 ≤ i.natAbs := Nat.log2_le_self _
  omega
def spRowX : Sp := fun vs H Q _ => ∃ (Z : Zone) (r : Th) (v : V) (z n : Int), vs = [v] ∧ At Z H r v ∧ rowB z n r = true ∧ z ≤ 8 ∧ n ≤ 100 ∧ ∀ x H', Same H H' → tl x = rowL r ++ [10] → Q (.str x) H'
def spMachX (CM : Addr) : Sp := fun vs H Q E => ∃ (Z : Zone) (t : Th) (v : V), vs = [v] ∧ At Z H t v ∧ shortT t = true ∧ (∀ z rows, t = .tup [.int z, .tup rows] → MOk z rows → ∀ x H', Same H H' → tl x = machL z rows → Q (.str x) H') ∧ (machB t = false → ∀ H', Same H H' → E (.ref CM) none H')
section
variable {P : Program} {w : World} {K : PySem.W.Frag} {mg : Str → Option Value} {base : Heap} {k : Nat}
theorem ok_row_text (Z : Zs mg) (d : Def K mg "row_text" s_row_text ["row"]) : Cal P w K mg base CX0 (k + 1) "row_text" ["row"] spRowX := by
  refine d.ok sc_row_text (fun vs H Q E h => ?_) (fun f cdv A outer s H vs Q E hr h => ?_)
  · obtain ⟨_, _, _, _, _, rfl, _⟩ := h; rfl
  obtain ⟨Zn, r, v, z, n, rfl, hv, hb, z8, n100, q⟩ := h
  refine ⟨_, (pss_cons (ps_asg (pv 0) (pg_tup (by rfl) (pgs_cons (pg_name (i := 1) sc_row_text.nd rfl (Or.inl rfl)) (pgs_cons (pg_name (i := 2) sc_row_text.nd rfl (Or.inl rfl)) pgs_nil))))
      (pss_cons (ps_set (i := 3) sc_row_text.nd rfl (Or.inl rfl) (pe_lst (pa_cons (pe_ifExp (pt_cmpR op_isN (pv 1) pe_non (nomark _)) pe_str (pe_callTy (T := "str") call_str_int (by rfl) Z.str (by decide +kernel) (pa_cons (pv 1) pa_nil))) pa_nil)))
      (pss_cons (ps_for PassesOwn.never rfl (pi_tup (pv 2)) (pg_name (i := 4) sc_row_text.nd rfl (Or.inl rfl)) (pss_one (ps_expr (pe_bm PySem.F.plainAttrs_list PySem.F.slot_list_append PySem.F.type_list_append mt_append (pv 3) (pa_cons (pe_ifExp (pt_cmpR op_isN (pv 4) pe_non (nomark _)) pe_str (pe_joined (.cons (pe_fmt (pe_ix ix_tup (pv 4) pe_int (fun _ _ => rfl))) (.cons pe_str (.cons (pe_fmt (pe_ix ix_tup (pv 4) pe_int (fun _ _ => rfl))) .nil))))) pa_nil)))))
      (pss_one (ps_ret (pe_op op_add_str (pe_join pe_str (pv 3)) pe_str)))))), ?_⟩
  have hlen := rowL_len hb z8 n100
  obtain ⟨e, ss, rfl, h1, h2, h3⟩ := rowB_is hb
  obtain ⟨p, ve, w', rfl, ep, b1, b2⟩ := hv.pair
  obtain ⟨ps, us, rfl, _, eps, as'⟩ := b2
  have ls := as'.len
  refine ⟨_, rfl, p, _, rfl, .of ep, rfl, _, _, rfl, _, _, rfl, rfl, ?_⟩
  have e45 : tl ("-" : Str) = [45] := by decide +kernel
  have e58 : tl (":" : Str) = [58] := by decide +kernel
  -- the list of words
  dsimp only [gName, gNil]
  refine rd_seq (fun σ' H' => ∃ (L : Addr) (w0 : Str), σ' = [some (.ref p), some ve, some (.ref ps), some (.ref L), none] ∧ Same H H' ∧ H L = none ∧ H' L = some (.lst [.str w0]) ∧ tl w0 = endW e) (fun N hN => ?_) (fun σ' H1 hh => ?_)
  · refine ⟨_, rfl, rfl, _, rfl, ?_⟩
    rcases h1 with rfl | ⟨i, rfl, i1, i2⟩
    · cases b1
      refine iteT ⟨(by show 1 ≤ sizeLine; decide), fun L nL => ?_⟩
      exact hN _ _ ⟨L, _, rfl, same_new nL _, nL, upd_same, e45⟩
    · cases b1
      refine iteF ⟨_, rfl, i, rfl, log_small (by omega), (by show 1 ≤ sizeLine; decide), fun L nL => ?_⟩
      exact hN _ _ ⟨L, _, rfl, same_new nL _, nL, upd_same, tl_int (by omega)⟩
  obtain ⟨L, w0, rfl, s1, nL, eL, ew0⟩ := hh
  refine ⟨_, rfl, ps, rfl, ⟨_, .of (s1 _ _ eps)⟩, ?_⟩
  refine for_tup (xs := us) (fun i σ' H' => ∃ (ws : List Str) (y4 : Option V), σ' = [some (.ref p), some ve, some (.ref ps), some (.ref L), y4] ∧ SB (At1 L) H1 H' ∧ Same H H' ∧ H' L = some (.lst (ws.map V.str)) ∧ ws.map tl = endW e :: (ss.take i).map stepW) ⟨[w0], _, rfl, .rfl', s1, eL, by rw [List.take_zero]; show [tl w0] = _; rw [ew0]; rfl⟩ (fun i σ' H' _ hh => ?_) (fun i x σ' H' ex hh => ?_) (fun σ' H' hh => ?_)
  · obtain ⟨ws, y4, rfl, sb, sH, eL', ew⟩ := hh
    exact .of (sH _ _ eps)
  · obtain ⟨ws, y4, rfl, sb, sH, eL', ew⟩ := hh
    obtain ⟨st, est, hst⟩ := as'.get ex
    have hi := (List.getElem?_eq_some_iff.mp est).1
    have hS := h3 st (List.mem_of_getElem? est)
    have lw : ws.length = i + 1 := by
      have := congrArg List.length ew
      rw [List.length_map, List.length_cons, List.length_map, List.length_take] at this
      omega
    have fin : ∀ (y : Str), tl y = stepW st → ∃ (ws' : List Str) (y4 : Option V), ([some (.ref p), some ve, some (.ref ps), some (.ref L), some x] : L2.St) = [some (.ref p), some ve, some (.ref ps), some (.ref L), y4] ∧ SB (At1 L) H1 (upd H' L (.lst (ws.map V.str ++ [.str y]))) ∧ Same H (upd H' L (.lst (ws.map V.str ++ [.str y]))) ∧ (upd H' L (.lst (ws.map V.str ++ [.str y]))) L = some (.lst (ws'.map V.str)) ∧ ws'.map tl = endW e :: (ss.take (i + 1)).map stepW := fun y hy =>
      ⟨ws ++ [y], _, rfl, sb.trans (.selfW _), Same.upd_new sH nL _, by rw [upd_same, List.map_append]; rfl, by rw [List.map_append, ew, List.take_add_one, est, List.map_append]; show _ :: (_ ++ [tl y]) = _; rw [hy]; rfl⟩
    refine ⟨_, rfl, .inl ⟨rfl, _, .inl (.inl eL')⟩, _, rfl, rfl, _, rfl, ?_⟩
    rcases st_at (hst.same sH) hS with ⟨rfl, rfl⟩ | ⟨qa, m, s', rfl, rfl, eq', nq, m0, m1, s0, s1'⟩
    · refine iteT ⟨L, _, _, rfl, rfl, eL', by rw [List.length_map, lw, sizeLine_eq]; omega, ?_⟩
      exact fin _ e45
    · refine iteF ?_
      refine ⟨_, rfl, qa, _, 0, .int m, rfl, rfl, .of eq', rfl, .inr ⟨m, rfl, log_small (by omega), ?_⟩⟩
      refine ⟨_, rfl, ?_, _, rfl, ?_, _, rfl, qa, _, 1, .int s', rfl, rfl, .of eq', rfl, .inr ⟨s', rfl, log_small (by omega), _, rfl, ?_, ?_⟩⟩
      · rw [sizeLine_eq, len_tl, tl_append, tl_int (by omega), List.length_append]
        have := numL_le (n := m.toNat) (by omega)
        have : (tl Str.empty).length = 0 := rfl
        omega
      · rw [sizeLine_eq, len_tl, tl_append, tl_append, tl_int (by omega), e58, List.length_append, List.length_append]
        have := numL_le (n := m.toNat) (by omega)
        have : (tl Str.empty).length = 0 := rfl
        have : ([58] : List Nat).length = 1 := rfl
        omega
      · rw [sizeLine_eq, len_tl, tl_append, tl_append, tl_append, tl_int (by omega), tl_int (by omega), e58, List.length_append, List.length_append, List.length_append]
        have := numL_le (n := m.toNat) (by omega)
        have := numL_le (n := s'.toNat) (by omega)
        have : (tl Str.empty).length = 0 := rfl
        have : ([58] : List Nat).length = 1 := rfl
        omega
      · refine ⟨L, _, _, rfl, rfl, eL', by rw [List.length_map, lw, sizeLine_eq]; omega, ?_⟩
        refine fin _ ?_
        rw [tl_append, tl_append, tl_append, tl_int (by omega), tl_int (by omega), e58]
        show ([] ++ numL m.toNat ++ [58]) ++ numL s'.toNat = numL m.toNat ++ ([58] ++ numL s'.toNat)
        rw [List.nil_append, List.append_assoc]
  · obtain ⟨ws, y4, rfl, sb, sH, eL', ew⟩ := hh
    rw [ls, List.take_length] at ew
    have e32 : tl (" " : Str) = [32] := by decide +kernel
    have e10 : tl ("\n" : Str) = [10] := by decide +kernel
    have lw : ws.length = ss.length + 1 := by
      have := congrArg List.length ew
      rw [List.length_map, List.length_cons, List.length_map] at this
      exact this
    have lb : ∀ y ∈ ws, y.length ≤ 5 := fun y m => by
      have m2 : tl y ∈ endW e :: ss.map stepW := by rw [← ew]; exact List.mem_map.mpr ⟨y, m, rfl⟩
      rw [len_tl]
      rcases List.mem_cons.mp m2 with e1 | m2
      · rw [e1]; exact Nat.le_trans (endW_len h1) (by omega)
      · obtain ⟨st, hs, e1⟩ := List.mem_map.mp m2
        rw [← e1]; exact stepW_len (h3 st hs) n100
    have eJ : tl (Txt.join " " ws) = rowL (.tup [e, .tup ss]) := by rw [tl_join', e32, ew]; rfl
    have sl := sum_le lb
    refine ⟨⟨_, rfl⟩, _, rfl, _, L, ws, rfl, rfl, .inl (.of eL'), ?_, _, _, rfl, rfl, ?_, ?_⟩
    · rw [len_tl " ", e32, List.length_singleton]; omega
    · rw [len_tl, eJ, len_tl, e10, List.length_singleton, sizeLine_eq]; omega
    · exact q _ _ sH (by rw [tl_append, eJ, e10])
end
end KL
end
section
set_option maxHeartbeats 1000000
namespace KL
open PySem PySem.Spec PyProof.Rows L2
def spLaw (K : PySem.W.Frag) : Sp := fun vs H Q _ => ∃ (a : Addr) (ns : List Int), vs = [.ref a] ∧ SqL K H a (ns.map V.int) ∧ ns.length ≤ 63 ∧ ∀ H', Q (.bl true) H'
theorem use_trimmed {CM : Addr} {H : Hp} {Q : VK} {E : XK} {Z : Zone} {u : V} {z : Int} {rows : List Th} (hu : At Z H (.tup [.int z, .tup rows]) u) (ok : MOk z rows) (q : ∀ v H', Same H H' → At (Trk H) H' (trimT z rows) v → Q v H') : spTrimmed CM [u] H Q E :=
  ⟨Z, u, _, rfl, hu, ok.short, fun z' rows' e1 _ v H' s' a' => by
    injection e1 with e1; injection e1 with e0 e1; injection e0 with e0; injection e1 with e1 _; injection e1 with e1
    subst e0 e1
    exact q v H' s' a', fun mb => absurd (mb.symm.trans ok.mach) (by decide)⟩
theorem scalO (o : Option Int) : scal (optV o) (optV o) = true := by cases o <;> rfl
theorem layS : (PyData.str "told").canLay0 = true ∧ (PyData.str "machine").canLay0 = true := by decide +kernel
theorem lay_str {x : Str} (h : (PyData.str x).canLay0 = true) : (py (.str x)).canLay0 = true := by rw [py]; exact h
theorem lay_pair {x : Str} {t : Th} (h : (PyData.str x).canLay0 = true) (l : (py t).canLay0 = true) : (py (.tup [.str x, t])).canLay0 = true :=
  lay_tup fun y m => by
    rcases List.mem_cons.mp m with rfl | m
    · exact lay_str h
    · rw [List.mem_singleton.mp m]; exact l
theorem dp_pair {x : Str} {t : Th} (h : dp t ≤ 60) : dp (.tup [.str x, t]) ≤ 64 := by
  show dpL [.str x, t] + 1 ≤ 64
  show max (dp (.str x)) (max (dp t) 0) + 1 ≤ 64
  have : dp (.str x) = 0 := rfl
  omega
theorem ne2 (x : V) : (!decide (x = x)) = false := by rw [decide_eq_true rfl]; rfl
theorem trues (n : Nat) : ((List.range n).map fun _ => V.bl true) = (List.replicate n true).map V.bl := by
  rw [List.map_const', List.length_range, List.map_replicate]
theorem trues_all (n : Nat) : (List.replicate n true).all id = true := by
  rw [List.all_eq_true]
  intro x m
  rw [List.eq_of_mem_replicate m]
  rfl
theorem keep_all {z : Int} {rows : List Th} (ok : MOk z rows) (h : lvE rows 0) : ∀ s, s < (trimL z rows).length → lv (trimL z rows) s := fun s hs => by
  have hk : keep rows ≠ [] := fun e => by
    have := keep_zero ok.n1 h
    rw [e] at this
    cases this
  have hl : (trimL z rows).length = (keep rows).length := by unfold trimL; rw [if_neg hk, List.length_map]
  have hm : s ∈ keep (trimL z rows) := by rw [keep_trim ok hk, List.mem_range, ← hl]; exact hs
  exact (mem_keep.mp hm).2
theorem mach_inj {z z' : Int} {rows rows' : List Th} (e1 : (Th.tup [.int z, .tup rows]) = .tup [.int z', .tup rows']) : z = z' ∧ rows = rows' := by
  injection e1 with e1; injection e1 with e0 e1; injection e0 with e0; injection e1 with e1 _; injection e1 with e1
  exact ⟨e0, e1⟩
end KL
end
section
set_option maxHeartbeats 1000000
namespace KL
open PySem PySem.Spec PyProof.Rows L2 TL
def Sx (l : List Nat) : Str := ⟨l.toArray⟩
theorem tl_Sx (l : List Nat) : tl (Sx l) = l := tl_mk l
theorem eq_Sx {x : Str} {l : List Nat} (h : tl x = l) : x = Sx l := ext_tl (by rw [tl_Sx, h])
theorem digR_short (w : List Nat) : shortT (digR w) = true := by
  rcases digR_is w with e | ⟨i, e⟩ <;> rw [e] <;> rfl
theorem stepR_short (w : List Nat) : shortT (stepR w) = true := by
  unfold stepR
  split
  · rfl
  · rw [shortT, shortL, shortL, shortL, digR_short, digR_short]; rfl
theorem rowR_short {w : List Nat} (h : w.length ≤ 900000) : shortT (rowR w) = true := by
  have hl := (spl_le [32] w []).1
  unfold rowR
  cases e : spl [32] 0 [] w with
  | nil => exact absurd e (spl_ne _ _ _)
  | cons a ss =>
    rw [e, List.length_cons] at hl
    show shortT (.tup [digR a, .tup (ss.map stepR)]) = true
    rw [shortT, shortL, shortL, shortL, digR_short, shortT, List.length_map, decide_eq_true (show ss.length ≤ 1000000 by omega), shortL_of (fun t m => by obtain ⟨y, _, rfl⟩ := List.mem_map.mp m; exact stepR_short y)]
    rfl
theorem machR_short {w : List Nat} (h : w.length ≤ 900000) : shortT (machR w) = true := by
  obtain ⟨hl, hp⟩ := spl_le [10] w []
  unfold machR
  cases e : spl [10] 0 [] w with
  | nil => exact absurd e (spl_ne _ _ _)
  | cons a ss =>
    rw [e] at hl hp
    rw [List.length_cons] at hl
    show shortT (.tup [digR (a.drop 5), .tup (ss.dropLast.map rowR)]) = true
    rw [shortT, shortL, shortL, shortL, digR_short, shortT, List.length_map, List.length_dropLast, decide_eq_true (show ss.length - 1 ≤ 1000000 by omega), shortL_of (fun t m => by
      obtain ⟨y, my, rfl⟩ := List.mem_map.mp m
      refine rowR_short ?_
      have := hp y (List.mem_cons_of_mem _ (List.dropLast_subset _ my))
      rw [List.length_nil] at this
      omega)]
    rfl
theorem tl_cutS (z : Str) (lo hi : Option Int) : tl (cutS z lo hi) = ((tl z).drop (HT.sIx (tl z).length 0 lo)).take (HT.sIx (tl z).length (tl z).length hi - HT.sIx (tl z).length 0 lo) := by
  rw [← len_tl]
  exact tl_mk _
theorem cutS_from (z : Str) (n : Nat) : tl (cutS z (some (n : Int)) none) = (tl z).drop n := by
  rw [tl_cutS, HT.sIx_nat, HT.sIx_none]
  by_cases h : n ≤ (tl z).length
  · rw [Nat.min_eq_left h]
    exact List.take_of_length_le (by rw [List.length_drop]; omega)
  · rw [Nat.min_eq_right (by omega), List.drop_length, List.drop_of_length_le (by omega)]
    exact List.take_of_length_le (by rw [List.length_nil]; omega)
theorem cutV_init (xs : List V) : cutV xs none (some (-1)) = xs.dropLast := by
  unfold cutV
  rw [HT.sIx_none, List.drop_zero, Nat.sub_zero, List.dropLast_eq_take]
  have e : HT.sIx xs.length xs.length (some (-1)) = xs.length - 1 := by
    show (if (-1 : Int) < 0 then ((-1 : Int) + (xs.length : Int)).toNat else min ((-1 : Int)).toNat xs.length) = xs.length - 1
    rw [if_pos (by decide)]
    omega
  rw [e]
def machXT : Th → List Nat
  | .tup [.int z, .tup rows] => machL z rows
  | _ => []
def readM : Th → Th
  | .str x => if (machB (machR (tl x)) && decide (machXT (machR (tl x)) = tl x)) = true then machR (tl x) else .non
  | _ => .non
theorem readM_text {z : Int} {rows : List Th} (ok : MOk z rows) {x : Str} (h : tl x = machL z rows) : readM (.str x) = .tup [.int z, .tup rows] := by
  show (if (machB (machR (tl x)) && decide (machXT (machR (tl x)) = tl x)) = true then machR (tl x) else .non) = _
  rw [h, machR_L ok, ok.mach]
  show (if (true && decide (machL z rows = machL z rows)) = true then _ else _) = _
  rw [decide_eq_true rfl]
  rfl
def spReadM : Sp := fun vs H Q _ => ∃ (Z : Zone) (t : Th) (v : V), vs = [v] ∧ At Z H t v ∧ (∀ x, t = .str x → x.length ≤ 900000) ∧ ∀ v' H', Same H H' → At (Trk H) H' (readM t) v' → Q v' H'
section
variable {P : Program} {w : World} {K : PySem.W.Frag} {mg : Str → Option Value} {base : Heap} {k : Nat}
theorem ok_machine_text {CM : Addr} (c_demand_machine : Cal P w K mg base (L2.CX P w) k "demand_machine" ["thing"] (spDemand CM)) (c_row_text : Cal P w K mg base CX0 k "row_text" ["row"] spRowX) (d : Def K mg "machine_text" s_machine_text ["machine"]) : Cal P w K mg base (L2.CX P w) (k + 1) "machine_text" ["machine"] (spMachX CM) := by
  refine d.okX sc_machine_text (fun vs H Q E h => ?_) (fun f cdv A outer s H vs Q E hr h => ?_)
  · obtain ⟨_, _, _, rfl, _⟩ := h; rfl
  obtain ⟨Zn, t, v, rfl, hv, st, qr, qm⟩ := h
  refine ⟨_, (pss_cons (ps_expr (pe_calE (E := E) c_demand_machine hr (by rfl) (takes_of rfl rfl rfl rfl) (pa_cons (pv 0) pa_nil)))
      (pss_cons (ps_asg (pv 0) (pg_tup (by rfl) (pgs_cons (pg_name (i := 1) sc_machine_text.nd rfl (Or.inl rfl)) (pgs_cons (pg_name (i := 2) sc_machine_text.nd rfl (Or.inl rfl)) pgs_nil))))
      (pss_one (ps_ret (pe_op op_add_str (pe_joined (.cons pe_str (.cons (pe_fmt (pv 1)) (.cons pe_str .nil)))) (pe_join pe_str (pe_lc (own := [("row", 3)]) (g := gName 3) (tt := tYes) rfl sc_machine_text.nd (pi_tup (pv 2)) (blkOk_by (N := ["machine", "size", "rows", "row"]) (sc := defScope s_machine_text) (by decide +kernel)) (fun _ _ _ _ _ => (pg_name (i := 3) sc_machine_text.nd rfl (Or.inl rfl))) (fun _ _ _ _ _ => pts_nil) (fun _ _ _ _ _ => (pe_cal c_row_text hr (by rfl) (pa_cons (pv 3) pa_nil)))))))))), ?_⟩
  refine ⟨_, rfl, Zn, v, t, rfl, hv, st, fun em H1 s1 => ?_, fun em H1 s1 => qm em H1 s1⟩
  obtain ⟨z, rows, rfl, ok⟩ := machB_ok em
  have q := qr z rows rfl ok
  have z1 := ok.z1
  have z8 := ok.z8
  have n30 := ok.n30
  obtain ⟨p, pr, us, rfl, ep, epr, ar, _⟩ := (hv.same s1).mach
  have lu := ar.len
  have e10 : tl ("\n" : Str) = [10] := by decide +kernel
  have eh : tl ("size " : Str) = [115, 105, 122, 101, 32] := by decide +kernel
  have lz := numL_le (n := z.toNat) (by omega)
  have l0 : (tl Str.empty).length = 0 := rfl
  have l5 : ([115, 105, 122, 101, 32] : List Nat).length = 5 := rfl
  have l1 : ([10] : List Nat).length = 1 := rfl
  refine ⟨_, rfl, p, _, rfl, .of ep, rfl, _, _, rfl, _, _, rfl, rfl, ?_⟩
  refine ⟨_, rfl, ?_, _, rfl, .inr ⟨z, rfl, log_small (by omega), ?_⟩⟩
  · rw [sizeLine_eq, len_tl, tl_append, eh, List.length_append]; omega
  refine ⟨_, rfl, ?_, _, rfl, ?_, ?_⟩
  · rw [sizeLine_eq, len_tl, tl_append, tl_append, eh, tl_int (by omega), List.length_append, List.length_append]; omega
  · rw [sizeLine_eq, len_tl, tl_append, tl_append, tl_append, eh, tl_int (by omega), e10, List.length_append, List.length_append, List.length_append]; omega
  refine ⟨⟨_, rfl⟩, ?_⟩
  refine ⟨_, rfl, pr, rfl, ⟨_, .of epr⟩, lc_valW (f := fun j => .str (Sx (rowL ((rows[j]?).getD .non) ++ [10]))) (p := fun _ => true) walk_tup (fun _ _ _ _ h => h) (fun H' s' => .of (s' _ _ epr)) (by omega) (fun _ => rfl) (fun j x G hj ex sG R hR => hR G (Same.refl G)) (fun j x G hj ex hp sG R hR => ?_) (fun D G sG nD eD => ?_)⟩
  · obtain ⟨r, er, hr2⟩ := ar.get ex
    refine ⟨_, rfl, Zn, r, x, z, (rows.length : Int), rfl, hr2.same sG, ok.r r (List.mem_of_getElem? er), z8, by omega, fun y H3 s3 e3 => ?_⟩
    have := hR H3 s3
    rw [er] at this
    rw [eq_Sx e3]
    exact this
  · rw [List.filter_eq_self.mpr (fun _ _ => rfl), lu, range_map_get (fun r => V.str (Sx (rowL r ++ [10]))), show rows.map (fun r => V.str (Sx (rowL r ++ [10]))) = (rows.map fun r => Sx (rowL r ++ [10])).map V.str by rw [List.map_map]; rfl] at eD
    have eJ : tl (Txt.join "" (rows.map fun r => Sx (rowL r ++ [10]))) = (rows.map fun r => rowL r ++ [10]).flatten := by
      rw [tl_join', joinL_nil (by decide +kernel), List.map_map]
      exact congrArg List.flatten (List.map_congr_left fun r _ => tl_Sx _)
    have lj := rows_len z8 (show (rows.length : Int) ≤ 100 by omega) ok.r
    refine ⟨_, D, _, rfl, rfl, .inl (.of eD), ?_, _, _, rfl, rfl, ?_, ?_⟩
    · have := sum_le (ws := rows.map fun r => Sx (rowL r ++ [10])) (b := 55) (fun y m => by
        obtain ⟨r, mr, rfl⟩ := List.mem_map.mp m
        have := rowL_len (ok.r r mr) z8 (show (rows.length : Int) ≤ 100 by omega)
        rw [len_tl, tl_Sx, List.length_append]; omega)
      rw [List.length_map] at this ⊢
      have e0 : ("" : Str).length = 0 := by decide +kernel
      rw [e0, Nat.mul_zero]
      omega
    · rw [len_tl, len_tl, eJ, tl_append, tl_append, tl_append, eh, tl_int (by omega), e10, List.length_append, List.length_append, List.length_append, sizeLine_eq]; omega
    · refine q _ G (s1.trans sG) ?_
      rw [tl_append, eJ, tl_append, tl_append, tl_append, eh, tl_int (by omega), e10]
      rfl
theorem ok_read_machine {CM : Addr} (Z : Zs mg) (c_read_digits : Cal P w K mg base CX0 k "read_digits" ["word"] spDig) (c_read_row : Cal P w K mg base CX0 k "read_row" ["line"] spRowR) (c_is_machine : Cal P w K mg base CX0 k "is_machine" ["thing"] (spTh machB)) (c_machine_text : Cal P w K mg base (L2.CX P w) k "machine_text" ["machine"] (spMachX CM)) (d : Def K mg "read_machine" s_read_machine ["text"]) : Cal P w K mg base CX0 (k + 1) "read_machine" ["text"] spReadM := by
  refine d.ok sc_read_machine (fun vs H Q E h => ?_) (fun f cdv A outer s H vs Q E hr h => ?_)
  · obtain ⟨_, _, _, rfl, _⟩ := h; rfl
  obtain ⟨Zn, t, v, rfl, hv, sx, q⟩ := h
  refine ⟨_, (pss_cons (ps_if (pt_not (pt_val (pe_callB (id := "isinstance") call_isi (by rfl) Z.isinstance (by decide +kernel) (pa_cons (pv 0) (pa_cons (pe_bltn (v := .ty "str") (by rfl) Z.str (by decide +kernel) rfl) pa_nil))))) (pss_one (ps_ret pe_non)) pss_nil)
      (pss_cons (ps_asg (pe_split (pv 0) pe_str) (pg_star (by rfl) (pgs_cons (pg_name (i := 1) sc_read_machine.nd rfl (Or.inl rfl)) (pgs_star (pg_name (i := 2) sc_read_machine.nd rfl (Or.inl rfl))))))
      (pss_cons (ps_set (i := 3) sc_read_machine.nd rfl (Or.inl rfl) (pe_tup (pa_cons (pe_cal c_read_digits hr (by rfl) (pa_cons (pe_slice sl_str (pv 1) (po_some (pe_callB (id := "len") call_len_str (by rfl) Z.len (by decide +kernel) (pa_cons pe_str pa_nil))) po_none) pa_nil)) (pa_cons (pe_callTy (T := "tuple") call_tuple_of (by rfl) Z.tuple (by decide +kernel) (pa_cons (pe_lc (own := [("line", 4)]) (g := gName 4) (tt := tYes) rfl sc_read_machine.nd (pi_list (pe_slice sl_list (pv 2) po_none (po_some (pe_un un_neg pe_int)))) (blkOk_by (N := ["text", "head", "rows", "found", "line"]) (sc := defScope s_read_machine) (by decide +kernel)) (fun _ _ _ _ _ => (pg_name (i := 4) sc_read_machine.nd rfl (Or.inl rfl))) (fun _ _ _ _ _ => pts_nil) (fun _ _ _ _ _ => (pe_cal c_read_row hr (by rfl) (pa_cons (pv 4) pa_nil)))) pa_nil)) pa_nil))))
      (pss_one (ps_ret (pe_ifExp (PW.pt (pw_and (pt_val (pe_cal c_is_machine hr (by rfl) (pa_cons (pv 3) pa_nil))) (pw_and1 (pt_cmpR op_eq (pe_calL c_machine_text hr (by rfl) (pa_cons (pv 3) pa_nil)) (pv 0) (nomark _))))) (pv 3) pe_non)))))), ?_⟩
  refine ⟨v, rfl, _, _, _, _, _, rfl, .ty _, (At.tyx (hv)), kit_ty (kitS t), _, rfl, iteB (fun e => ?_) (fun e => ?_)⟩
  · refine q .non H (Same.refl H) ?_
    rw [show readM t = .non by cases t <;> first | rfl | cases e]
    rfl
  obtain ⟨x, rfl⟩ := isS_str (not_false' e)
  cases hv
  have lx := sx x rfl
  have lt := len_tl x
  have es := split_spl1 x 10 "\n" (by decide +kernel) (by omega)
  obtain ⟨ll, lp⟩ := spl_le [10] (tl x) []
  rw [← es, List.length_map] at ll
  rw [← es] at lp
  have eR : machR (tl x) = (match (Txt.split x "\n").map tl with | h :: ls => .tup [digR (h.drop 5), .tup (ls.dropLast.map rowR)] | [] => .non) := by rw [es]; rfl
  have sM := machR_short (w := tl x) (by omega)
  cases eS : Txt.split x "\n" with
  | nil => exact absurd (by rw [← es, eS]; rfl) (spl_ne [10] (tl x) [])
  | cons e ss =>
  rw [eS] at ll lp eR
  rw [List.length_cons] at ll
  have lw : ∀ y ∈ e :: ss, y.length ≤ 900000 := fun y m => by
    have := lp (tl y) (List.mem_map.mpr ⟨y, m, rfl⟩)
    rw [List.length_nil] at this
    rw [len_tl]; omega
  refine ⟨_, rfl, ⟨_, rfl⟩, _, _, rfl, rfl, by decide +kernel, by rw [sizeLine_eq]; omega, fun p np => ?_⟩
  rw [eS]
  have y1 := same_new np (.lst ((e :: ss).map V.str))
  refine ⟨p, .str e, ss.map V.str, rfl, .of upd_same, fun D nD => ?_⟩
  have y2 := same_new nD (.lst (ss.map V.str))
  refine ⟨_, _, rfl, _, _, rfl, rfl, ?_⟩
  have e5 : ("size " : Str).length = 5 := by decide +kernel
  have le := lw e List.mem_cons_self
  have eC : tl (cutS e (some ((5 : Nat) : Int)) none) = (tl e).drop 5 := cutS_from e 5
  refine ⟨_, rfl, _, rfl, by rw [e5, sizeLine_eq]; omega, _, rfl, e, rfl, by rw [sizeLine_eq]; omega, ?_⟩
  rw [e5]
  refine ⟨_, rfl, by rw [len_tl, eC, List.length_drop, ← len_tl]; omega, fun v1 H1 s1 a1 => ?_⟩
  have eD := s1 _ _ (upd_same (H := upd H p (.lst ((e :: ss).map V.str))) (a := D) (o := .lst (ss.map V.str)))
  have s01 := y1.trans (y2.trans s1)
  refine ⟨_, rfl, _, rfl, _, rfl, D, _, rfl, .of eD, fun L nL => ?_⟩
  rw [cutV_init, ← List.map_dropLast]
  have y3 := same_new nL (.lst (ss.dropLast.map V.str))
  have eL := upd_same (H := H1) (a := L) (o := .lst (ss.dropLast.map V.str))
  have s02 := s01.trans y3
  generalize upd H1 L (.lst (ss.dropLast.map V.str)) = H2 at y3 eL s02
  have ld := List.length_dropLast (xs := ss)
  refine ⟨L, rfl, ⟨_, .of eL⟩, lc_newW (f := fun j => rowR (tl ((ss.dropLast[j]?).getD Str.empty))) walk_list (fun _ _ _ _ h => h) (fun H' s' => .of (s' _ _ eL)) (by rw [List.length_map]; omega) (fun _ => rfl) (fun j x H2 hj ex s2 R hR => ?_) (fun D2 H4 vs4 s4 hD eD2 aD => ?_)⟩
  · obtain ⟨y, ey, rfl⟩ := strs_get ex
    refine ⟨_, rfl, y, rfl, lw y (List.mem_cons_of_mem _ (List.dropLast_subset _ (List.mem_of_getElem? ey))), fun v' H3 s3 a3 => hR v' H3 s3 ?_⟩
    rw [ey]
    exact a3
  refine ⟨D2, vs4, rfl, .inl ⟨.of eD2, fun p5 n5 => ?_⟩⟩
  have z5 := same_new n5 (.tup vs4)
  refine ⟨(by show 2 ≤ sizeLine; decide), fun p6 n6 => ?_⟩
  have z6 := same_new n6 (.tup [v1, .ref p5])
  have s6 := s4.trans (z5.trans z6)
  have sA := s02.trans s6
  rw [eC] at a1
  have aM : At (Trk H) (upd (upd H4 p5 (.tup vs4)) p6 (.tup [v1, .ref p5])) (machR (tl x)) (.ref p6) := by
    rw [eR]
    refine ⟨p6, _, rfl, fun t => Trk.not n6 (Trk.same (s02.trans (s4.trans z5)) t), upd_same, .cons ((a1 _).same (y3.trans s6)) (.cons ⟨p5, vs4, rfl, fun t => Trk.not n5 (Trk.same (s02.trans s4) t), z6 _ _ upd_same, ?_⟩ .nil)⟩
    rw [List.length_map, range_map_get (fun y => rowR (tl y))] at aD
    have := ((aD.less fun a h => .inr (Trk.same s02 h)).same z5).same z6
    rw [← List.map_dropLast, List.map_map]
    exact this
  generalize upd (upd H4 p5 (.tup vs4)) p6 (.tup [v1, .ref p5]) = H6 at sA aM
  clear eR aD eD2 z5 z6 s6 s4
  generalize hM : machR (tl x) = M at aM sM
  have q' : ∀ v' H', Same H H' → At (Trk H) H' (if (machB M && decide (machXT M = tl x)) = true then M else .non) v' → Q v' H' := by
    rw [← hM]; exact q
  dsimp only [gName]
  refine ⟨_, rfl, Trk H, .ref p6, M, rfl, aM, sM, fun H7 s7 => ⟨_, rfl, ?_⟩⟩
  cases mb : machB M with
  | false =>
    rw [mb] at q'
    exact iteF (iteF (q' .non H7 (sA.trans s7) rfl))
  | true =>
    rw [mb] at q'
    obtain ⟨z, rows, rfl, ok⟩ := machB_ok mb
    refine iteT ?_
    refine ⟨_, rfl, Trk H, _, .ref p6, rfl, aM.same s7, sM, fun z' rows' e1 ok' y H8 s8 ey => ?_, fun mf => absurd (mf.symm.trans mb) (by decide)⟩
    obtain ⟨rfl, e3⟩ := mach_inj e1
    subst e3
    refine ⟨_, rfl, rfl, _, rfl, ?_⟩
    rw [eq_tl, ey]
    have q2 : ∀ v' H', Same H H' → At (Trk H) H' (if decide (machL z rows = tl x) = true then (Th.tup [.int z, .tup rows]) else .non) v' → Q v' H' := q'
    cases hd : decide (machL z rows = tl x) with
    | true =>
      rw [hd] at q2
      exact iteT ⟨_, rfl, q2 _ H8 (sA.trans (s7.trans s8)) ((aM.same s7).same s8)⟩
    | false =>
      rw [hd] at q2
      exact iteF (q2 .non H8 (sA.trans (s7.trans s8)) rfl)
end
end KL
end
section
set_option maxHeartbeats 1000000
namespace KL
open PySem PySem.Spec PyProof.Rows L2 TL
abbrev sc_law_step_textN : List Str := ["_law_step_here"]
abbrev s_law_step_text : Stmt := topS 41
theorem sc_law_step_text : FnScope ["_law_step_here"] ["_law_step_here"] (defScope s_law_step_text) := ⟨rfl, rfl, rfl, by decide +kernel, rfl, by decide +kernel, by decide +kernel⟩
abbrev sc_law_machine_textN : List Str := ["_law_machine_here", "_law_text", "_law_end_here", "_law_steps", "_law_step_here"]
abbrev s_law_machine_text : Stmt := topS 42
theorem sc_law_machine_text : FnScope ["_law_machine_here", "_law_text", "_law_end_here", "_law_steps", "_law_step_here"] ["_law_machine_here"] (defScope s_law_machine_text) := ⟨rfl, rfl, rfl, by decide +kernel, rfl, by decide +kernel, by decide +kernel⟩
theorem joinL_cons (a : List Nat) : ∀ bs : List (List Nat), joinL [32] (a :: bs) = a ++ (bs.map fun b => [32] ++ b).flatten
  | [] => by show a = a ++ []; rw [List.append_nil]
  | b :: bs => by
    show a ++ ([32] ++ joinL [32] (b :: bs)) = _
    rw [joinL_cons b bs, List.map_cons, List.flatten_cons, List.append_assoc]
def spStepX : Sp := fun vs H Q _ => ∃ (Z : Zone) (st : Th) (v : V) (n : Int), vs = [v] ∧ At Z H st v ∧ StepIs n st ∧ n ≤ 100 ∧ ∀ x H', Same H H' → tl x = stepW st → Q (.str x) H'
def spLMX : Sp := fun vs H Q _ => ∃ (Z : Zone) (z : Int) (rows : List Th) (v : V), vs = [v] ∧ At Z H (.tup [.int z, .tup rows]) v ∧ MOk z rows ∧ ∀ x H', Same H H' → tl x = machL z rows → Q (.str x) H'
section
variable {P : Program} {w : World} {K : PySem.W.Frag} {mg : Str → Option Value} {base : Heap} {k : Nat}
theorem ok_law_step_text (Z : Zs mg) (d : Def K mg "_law_step_text" s_law_step_text ["_law_step_here"]) : Cal P w K mg base CX0 (k + 1) "_law_step_text" ["_law_step_here"] spStepX := by
  refine d.ok sc_law_step_text (fun vs H Q E h => ?_) (fun f cdv A outer s H vs Q E hr h => ?_)
  · obtain ⟨_, _, _, _, rfl, _⟩ := h; rfl
  obtain ⟨Zn, st, v, n, rfl, hv, hs, hn, q⟩ := h
  refine ⟨_, (pss_cons (ps_if (pt_cmpR op_isN (pv 0) pe_non (nomark _)) (pss_one (ps_ret pe_str)) pss_nil)
      (pss_one (ps_ret (pe_op op_add_str (pe_op op_add_str (pe_callTy (T := "str") call_str_int (by rfl) Z.str (by decide +kernel) (pa_cons (pe_ix ix_tup (pv 0) pe_int (fun _ _ => rfl)) pa_nil)) pe_str) (pe_callTy (T := "str") call_str_int (by rfl) Z.str (by decide +kernel) (pa_cons (pe_ix ix_tup (pv 0) pe_int (fun _ _ => rfl)) pa_nil)))))), ?_⟩
  have e45 : tl ("-" : Str) = [45] := by decide +kernel
  have e58 : tl (":" : Str) = [58] := by decide +kernel
  have l58 : (":" : Str).length = 1 := by decide +kernel
  refine ⟨_, rfl, rfl, _, rfl, ?_⟩
  rcases st_at hv hs with ⟨rfl, rfl⟩ | ⟨qa, m, s', rfl, rfl, eq', nq, m0, m1, s0, s1'⟩
  · exact iteT (q _ H (Same.refl H) e45)
  · have lm := numL_le (n := m.toNat) (by omega)
    have ls := numL_le (n := s'.toNat) (by omega)
    refine iteF ⟨_, rfl, qa, _, 0, .int m, rfl, rfl, .of eq', rfl, m, rfl, log_small (by omega), _, _, rfl, rfl, ?_, _, rfl, qa, _, 1, .int s', rfl, rfl, .of eq', rfl, s', rfl, log_small (by omega), _, _, rfl, rfl, ?_, ?_⟩
    · rw [l58, len_tl, tl_int (by omega), sizeLine_eq]; omega
    · rw [len_tl, len_tl, tl_append, tl_int (by omega), tl_int (by omega), e58, List.length_append, sizeLine_eq]
      have : ([58] : List Nat).length = 1 := rfl
      omega
    · refine q _ H (Same.refl H) ?_
      rw [tl_append, tl_append, tl_int (by omega), tl_int (by omega), e58, List.append_assoc]
      rfl
theorem ok_law_machine_text (Z : Zs mg) (c_law_step_text : Cal P w K mg base CX0 k "_law_step_text" ["_law_step_here"] spStepX) (d : Def K mg "_law_machine_text" s_law_machine_text ["_law_machine_here"]) : Cal P w K mg base CX0 (k + 1) "_law_machine_text" ["_law_machine_here"] spLMX := by
  refine d.ok sc_law_machine_text (fun vs H Q E h => ?_) (fun f cdv A outer s H vs Q E hr h => ?_)
  · obtain ⟨_, _, _, _, rfl, _⟩ := h; rfl
  obtain ⟨Zn, z, rows, v, rfl, hv, ok, q⟩ := h
  refine ⟨_, (pss_cons (ps_set (i := 1) sc_law_machine_text.nd rfl (Or.inl rfl) (pe_op op_add_str (pe_op op_add_str pe_str (pe_callTy (T := "str") call_str_int (by rfl) Z.str (by decide +kernel) (pa_cons (pe_ix ix_tup (pv 0) pe_int (fun _ _ => rfl)) pa_nil))) pe_str))
      (pss_cons (ps_for PassesOwn.never rfl (pi_tup (pe_ix ix_tup (pv 0) pe_int (fun _ _ => rfl))) (pg_tup (by rfl) (pgs_cons (pg_name (i := 2) sc_law_machine_text.nd rfl (Or.inl rfl)) (pgs_cons (pg_name (i := 3) sc_law_machine_text.nd rfl (Or.inl rfl)) pgs_nil))) (pss_cons (ps_set (i := 1) sc_law_machine_text.nd rfl (Or.inl rfl) (pe_op op_add_str (pv 1) (pe_ix ix_list (pe_lst (pa_cons pe_str (pa_cons (pe_callTy (T := "str") call_strIN (by rfl) Z.str (by decide +kernel) (pa_cons (pv 2) pa_nil)) pa_nil))) (pe_callTy (T := "int") call_int1 (by rfl) Z.int (by decide +kernel) (pa_cons (pe_cmpR op_notN (pv 2) pe_non (nomark _)) pa_nil)) (fun _ _ => rfl))))
      (pss_cons (ps_for PassesOwn.never rfl (pi_tup (pv 3)) (pg_name (i := 4) sc_law_machine_text.nd rfl (Or.inl rfl)) (pss_one (ps_set (i := 1) sc_law_machine_text.nd rfl (Or.inl rfl) (pe_op op_add_str (pe_op op_add_str (pv 1) pe_str) (pe_cal c_law_step_text hr (by rfl) (pa_cons (pv 4) pa_nil))))))
      (pss_one (ps_set (i := 1) sc_law_machine_text.nd rfl (Or.inl rfl) (pe_op op_add_str (pv 1) pe_str))))))
      (pss_one (ps_ret (pv 1))))), ?_⟩
  have z1 := ok.z1
  have z8 := ok.z8
  have n30 := ok.n30
  obtain ⟨p, pr, us, rfl, ep, epr, ar, _⟩ := hv.mach
  have lu := ar.len
  have e10 : tl ("\n" : Str) = [10] := by decide +kernel
  have e32 : tl (" " : Str) = [32] := by decide +kernel
  have e45 : tl ("-" : Str) = [45] := by decide +kernel
  have eh : tl ("size " : Str) = [115, 105, 122, 101, 32] := by decide +kernel
  have lh : ("size " : Str).length = 5 := by decide +kernel
  have l10 : ("\n" : Str).length = 1 := by decide +kernel
  have l32 : (" " : Str).length = 1 := by decide +kernel
  have lz := numL_le (n := z.toNat) (by omega)
  have lhd := headL_len z8
  refine ⟨_, rfl, p, _, 0, .int z, rfl, rfl, .of ep, rfl, z, rfl, log_small (by omega), _, _, rfl, rfl, ?_, _, _, rfl, rfl, ?_, ?_⟩
  · rw [lh, len_tl, tl_int (by omega), sizeLine_eq]; omega
  · rw [l10, len_tl, tl_append, eh, tl_int (by omega), List.length_append, sizeLine_eq]
    have : ([115, 105, 122, 101, 32] : List Nat).length = 5 := rfl
    omega
  dsimp only [gName]
  refine ⟨_, rfl, p, _, 1, .ref pr, rfl, rfl, .of ep, rfl, pr, rfl, ⟨_, .of epr⟩, ?_⟩
  refine for_tup (xs := us) (fun i σ' H' => Same H H' ∧ ∃ (x : Str) (y2 y3 y4 : Option V), σ' = [some (.ref p), some (.str x), y2, y3, y4] ∧ tl x = (headL z ++ [10]) ++ ((rows.take i).map fun r => rowL r ++ [10]).flatten) ⟨Same.refl H, _, none, none, none, rfl, ?_⟩ (fun i σ' H' _ hh => .of (hh.1 _ _ epr)) (fun i x σ' H' ex hh => ?_) (fun σ' H' hh => ?_)
  · rw [tl_append, tl_append, eh, tl_int (by omega), e10, List.take_zero, List.map_nil, List.flatten_nil, List.append_nil]; rfl
  · obtain ⟨sH, x0, y2, y3, y4, rfl, et⟩ := hh
    have hi : i < rows.length := by have := (List.getElem?_eq_some_iff.mp ex).1; omega
    obtain ⟨pu, ve, ps, vs, e, ss, b1, b2, b3, b4, b5, b6, b7, b8, b9⟩ := row_at (ar.same sH) ok hi
    rw [b1] at ex; cases ex
    have hb := ok.r _ (List.mem_of_getElem? b4)
    have lt := rows_len (rows := rows.take i) z8 (show (rows.length : Int) ≤ 100 by omega) (fun r m => ok.r r (List.mem_of_mem_take m))
    rw [List.length_take] at lt
    have lx0 : x0.length ≤ 2000 := by rw [len_tl, et, List.length_append, List.length_append, List.length_singleton]; omega
    refine ⟨pu, _, rfl, .of b2, rfl, _, _, rfl, _, _, rfl, rfl, ?_⟩
    dsimp only [gName, gNil]
    obtain ⟨e', ss', ee, h1, h2', h3⟩ := rowB_is hb
    have ee1 : e = e' ∧ ss = ss' := by
      injection ee with ee; injection ee with e1 ee; injection ee with ee _; injection ee with ee
      exact ⟨e1, ee⟩
    obtain ⟨rfl, rfl⟩ := ee1
    have le := endW_len h1
    -- the end
    refine rd_seq (fun σ' G => Same H' G ∧ ∃ y : Str, σ' = [some (.ref p), some (.str y), some ve, some (.ref ps), y4] ∧ tl y = tl x0 ++ endW e) (fun N hN => ?_) (fun σ' G hh => ?_)
    · refine ⟨_, rfl, ?_⟩
      have gen : ∀ (w0 : Str), tl w0 = endW e → N [some (.ref p), some (.str (x0 ++ w0)), some ve, some (.ref ps), y4] H' → True := fun _ _ _ => trivial
      rcases b6 with ⟨rfl, rfl⟩ | ⟨i', rfl, rfl⟩
      · refine ⟨_, rfl, .inr ⟨rfl, (by show 2 ≤ sizeLine; decide), fun L nL => ?_⟩⟩
        have yL := same_new nL (.lst [.str "-", .str "None"])
        refine ⟨_, rfl, rfl, .inr ⟨_, rfl, L, _, _, _, rfl, rfl, .of upd_same, rfl, _, _, rfl, rfl, ?_, ?_⟩⟩
        · rw [len_tl "-", e45, List.length_singleton, sizeLine_eq]; omega
        · exact hN _ _ ⟨yL, _, rfl, by rw [tl_append, e45]; rfl⟩
      · have hi1 : 1 ≤ i' ∧ i' ≤ 60 := by
          rcases h1 with h1 | ⟨j, h1, j1, j2⟩
          · cases h1
          · cases h1; exact ⟨j1, j2⟩
        refine ⟨_, rfl, .inl ⟨i', rfl, log_small (by omega), (by show 2 ≤ sizeLine; decide), fun L nL => ?_⟩⟩
        have yL := same_new nL (.lst [.str "-", .str (Str.ofString (toString i'))])
        refine ⟨_, rfl, rfl, .inr ⟨_, rfl, L, _, _, _, rfl, rfl, .of upd_same, rfl, _, _, rfl, rfl, ?_, ?_⟩⟩
        · have := numL_le (n := i'.toNat) (by omega)
          rw [len_tl (Str.ofString (toString i')), tl_int (by omega), sizeLine_eq]; omega
        · exact hN _ _ ⟨yL, _, rfl, by rw [tl_append, tl_int (by omega)]; rfl⟩
    obtain ⟨sG, y, rfl, ey⟩ := hh
    have ly : y.length ≤ 2100 := by rw [len_tl, ey, List.length_append, ← len_tl]; omega
    have lvs := b8.len
    refine rd_seq (fun σ' G2 => Same H G2 ∧ ∃ (y2 : Str) (y4 : Option V), σ' = [some (.ref p), some (.str y2), some ve, some (.ref ps), y4] ∧ tl y2 = tl x0 ++ rowL (.tup [e, .tup ss])) (fun N hN => ?_) (fun σ' G2 hh => ?_)
    · refine ⟨_, rfl, ps, rfl, ⟨_, .of (sG _ _ b3)⟩, ?_⟩
      refine for_tup (xs := vs) (fun j σ' G2 => Same G G2 ∧ ∃ (y2 : Str) (y4 : Option V), σ' = [some (.ref p), some (.str y2), some ve, some (.ref ps), y4] ∧ tl y2 = tl x0 ++ (endW e ++ ((ss.take j).map fun s => [32] ++ stepW s).flatten)) ⟨Same.refl G, y, _, rfl, by rw [ey, List.take_zero, List.map_nil, List.flatten_nil, List.append_nil]⟩ (fun j σ' G2 _ hh => .of (hh.1 _ _ (sG _ _ b3))) (fun j x σ' G2 ex hh => ?_) (fun σ' G2 hh => ?_)
      · obtain ⟨s2, y2, y4, rfl, e2⟩ := hh
        obtain ⟨st, est, hst⟩ := b8.get ex
        have hj : j < ss.length := (List.getElem?_eq_some_iff.mp est).1
        have hS := h3 st (List.mem_of_getElem? est)
        have lst := stepW_len hS (by omega)
        have l2 : y2.length ≤ 2200 := by
          have : ∀ n : Nat, (((ss.take n).map fun s => [32] ++ stepW s).flatten).length ≤ n * 6 := fun n => by
            have := flat_len (b := 6) (ps := (ss.take n).map fun s => [32] ++ stepW s) (fun q m => by
              obtain ⟨s, ms, rfl⟩ := List.mem_map.mp m
              have := stepW_len (h3 s (List.mem_of_mem_take ms)) (by omega)
              rw [List.length_append, List.length_singleton]; omega)
            rw [List.length_map, List.length_take] at this
            have h5 : min n ss.length * 6 ≤ n * 6 := Nat.mul_le_mul_right 6 (Nat.min_le_left _ _)
            omega
          have := this j
          rw [len_tl, e2, List.length_append, List.length_append, ← len_tl]
          omega
        refine ⟨_, rfl, _, _, rfl, rfl, ?_, _, rfl, Zn, st, x, _, rfl, ((hst.same sG).same s2), hS, by omega, fun w1 G3 s3 e3 => ⟨_, _, rfl, rfl, ?_, ?_⟩⟩
        · rw [l32, sizeLine_eq]; omega
        · rw [len_tl, len_tl, e3, tl_append, List.length_append, e32, List.length_singleton, ← len_tl, sizeLine_eq]; omega
        · refine ⟨s2.trans s3, _, _, rfl, ?_⟩
          rw [tl_append, tl_append, e2, e3, e32, List.take_add_one, est, List.map_append, List.flatten_append]
          simp only [List.append_assoc, Option.toList, List.map_cons, List.map_nil, List.flatten_cons, List.flatten_nil, List.append_nil]
      · obtain ⟨s2, y2, y4, rfl, e2⟩ := hh
        refine hN _ _ ⟨sH.trans (sG.trans s2), _, _, rfl, ?_⟩
        rw [e2, lvs, List.take_length]
        show _ = tl x0 ++ joinL [32] (endW e :: ss.map stepW)
        rw [joinL_cons, List.map_map]
        rfl
    obtain ⟨sG2, y2, y4', rfl, e2⟩ := hh
    have lr := rowL_len hb z8 (by omega)
    refine ⟨_, rfl, _, _, rfl, rfl, ?_, ?_⟩
    · rw [l10, len_tl, e2, List.length_append, ← len_tl, sizeLine_eq]; omega
    · refine ⟨sG2, _, _, _, _, rfl, ?_⟩
      rw [tl_append, e2, e10, et, List.take_add_one, b4, List.map_append, List.flatten_append]
      simp only [List.append_assoc, Option.toList, List.map_cons, List.map_nil, List.flatten_cons, List.flatten_nil, List.append_nil]
  · obtain ⟨sH, x0, y2, y3, y4, rfl, et⟩ := hh
    rw [lu, List.take_length] at et
    exact ⟨_, rfl, q _ _ sH et⟩
end
end KL
end
section
set_option maxHeartbeats 1000000
namespace KL
open PySem PySem.Spec PyProof.Rows L2 TL
/-! ### the law's own reading -/
def digQ (w : List Nat) : Th := if (digOk w && decide (numL (NumText.digitsVal w) = w)) = true then .int (NumText.digitsVal w : Nat) else .non
theorem digQ_is (w : List Nat) : digQ w = .non ∨ ∃ i : Nat, digQ w = .int (i : Nat) := by
  unfold digQ
  split
  · exact .inr ⟨_, rfl⟩
  · exact .inl rfl
theorem digQ_num {n : Nat} (h : n < 100) : digQ (numL n) = .int (n : Nat) := by
  have h1 : digOk (numL n) = true := by
    have := digR_num h
    unfold digR at this
    split at this
    · assumption
    · cases this
  rw [digQ, h1, numL_val, decide_eq_true rfl]
  rfl
def stepQ (w : List Nat) : Th := if w = [45] then .non else match spl [58] 0 [] w with
  | [a, b] => if (isNon (digQ a) || isNon (digQ b)) = true then .str "none" else .tup [digQ a, digQ b]
  | _ => .str "none"
def rowQ (w : List Nat) : Th := match spl [32] 0 [] w with
  | e :: ss => if (isNon (digQ e) && !decide (e = [45])) = true then .str "none" else .tup [digQ e, .tup (ss.map stepQ)]
  | [] => .non
def lastNl (w : List Nat) : Bool := decide (w.drop (w.length - 1) = [10])
def foundQ (b : List Nat) (ls : List (List Nat)) : Th := .tup [digQ b, .tup (ls.map rowQ)]
def readQ : Th → Th
  | .str x => if lastNl (tl x) = true then match (spl [10] 0 [] (tl x)).dropLast with
    | h :: ls => match spl [32] 0 [] h with
      | [a, b] => if a = [115, 105, 122, 101] then (if (machB (foundQ b ls) && decide (machXT (foundQ b ls) = tl x)) = true then foundQ b ls else .non) else .non
      | _ => .non
    | [] => .non
    else .non
  | _ => .non
theorem stepQ_W {n : Int} {st : Th} (h : StepIs n st) (hn : n ≤ 100) : stepQ (stepW st) = st := by
  rcases h with rfl | ⟨m, s, rfl, m0, m1, s0, s1⟩
  · rfl
  · show stepQ (numL m.toNat ++ ([58] ++ numL s.toNat)) = _
    rw [stepQ, if_neg (numL_ne45 _ _), show spl [58] 0 [] (numL m.toNat ++ ([58] ++ numL s.toNat)) = ([] ++ numL m.toNat) :: spl [58] 0 [] (numL s.toNat) from spl_part1 (numL_free (by omega)),
      show spl [58] 0 [] (numL s.toNat) = [[] ++ numL s.toNat] from spl_last1 (numL_free (by omega)), List.nil_append, List.nil_append]
    show (if (isNon (digQ (numL m.toNat)) || isNon (digQ (numL s.toNat))) = true then Th.str "none" else .tup [digQ (numL m.toNat), digQ (numL s.toNat)]) = _
    rw [digQ_num (by omega), digQ_num (by omega), show ((m.toNat : Nat) : Int) = m by omega, show ((s.toNat : Nat) : Int) = s by omega]
    rfl
theorem endQ_W {e : Th} (h : e = .non ∨ ∃ i, e = .int i ∧ 1 ≤ i ∧ i ≤ 60) : digQ (endW e) = e ∧ (isNon (digQ (endW e)) && !decide (endW e = [45])) = false := by
  rcases h with rfl | ⟨i, rfl, i1, i2⟩
  · have e : digQ (endW .non) = .non := by
      rw [digQ, show digOk (endW .non) = false by decide]
      rfl
    rw [e]
    exact ⟨rfl, by decide⟩
  · have e : digQ (endW (.int i)) = .int i := by
      show digQ (numL i.toNat) = _
      rw [digQ_num (by omega), show ((i.toNat : Nat) : Int) = i by omega]
    rw [e]
    exact ⟨rfl, rfl⟩
theorem rowQ_L {z n : Int} {r : Th} (h : rowB z n r = true) (hn : n ≤ 100) : rowQ (rowL r) = r := by
  have hs := rowW_signs h
  obtain ⟨e, ss, rfl, h1, h2, h3⟩ := rowB_is h
  obtain ⟨e1, e2⟩ := endQ_W h1
  unfold rowQ rowL
  rw [spl_join (s := 32) (S := []) (parts := rowW (.tup [e, .tup ss])) (by unfold rowW; exact List.cons_ne_nil _ _) (fun w hw hc => by have := hs w hw 32 hc; omega)]
  show (if (isNon (digQ (endW e)) && !decide (endW e = [45])) = true then Th.str "none" else .tup [digQ (endW e), .tup ((ss.map stepW).map stepQ)]) = _
  rw [e2, e1, List.map_map, map_id' (fun st m => by exact stepQ_W (h3 st m) hn)]
  rfl
theorem mach_last {z : Int} {rows : List Th} (ok : MOk z rows) : lastNl (machL z rows) = true := by
  have n1 := ok.n1
  have e : ∃ p : List Nat, machL z rows = p ++ [10] := by
    have hr : ∃ i l, rows = i ++ [l] := ⟨_, _, (List.dropLast_concat_getLast (l := rows) (by intro e; rw [e] at n1; exact absurd n1 (by decide))).symm⟩
    obtain ⟨i, l, hr⟩ := hr
    unfold machL
    rw [hr, List.map_append, List.flatten_append]
    simp only [List.map_cons, List.map_nil, List.flatten_cons, List.flatten_nil, List.append_nil]
    exact ⟨(headL z ++ [10]) ++ ((i.map fun r => rowL r ++ [10]).flatten ++ rowL l), by simp only [List.append_assoc]⟩
  obtain ⟨p, e⟩ := e
  unfold lastNl
  rw [e, List.length_append, List.length_singleton, Nat.add_sub_cancel, List.drop_left]
  exact decide_eq_true rfl
theorem readQ_text {z : Int} {rows : List Th} (ok : MOk z rows) {x : Str} (h : tl x = machL z rows) : readQ (.str x) = .tup [.int z, .tup rows] := by
  have z1 := ok.z1
  have z8 := ok.z8
  have n30 := ok.n30
  unfold readQ
  show (if lastNl (tl x) = true then _ else _) = _
  rw [h, mach_last ok, if_pos rfl, spl_mach ok, List.dropLast_cons_of_ne_nil (by simp), List.dropLast_concat]
  show (match spl [32] 0 [] (headL z) with
      | [a, b] => if a = [115, 105, 122, 101] then (if (machB (foundQ b (rows.map rowL)) && decide (machXT (foundQ b (rows.map rowL)) = machL z rows)) = true then foundQ b (rows.map rowL) else .non) else .non
      | _ => .non) = _
  have e : spl [32] 0 [] (headL z) = [[115, 105, 122, 101], numL z.toNat] := by
    show spl [32] 0 [] ([115, 105, 122, 101] ++ ([32] ++ numL z.toNat)) = _
    rw [show spl [32] 0 [] ([115, 105, 122, 101] ++ ([32] ++ numL z.toNat)) = ([] ++ [115, 105, 122, 101]) :: spl [32] 0 [] (numL z.toNat) from spl_part1 (by decide), show spl [32] 0 [] (numL z.toNat) = [[] ++ numL z.toNat] from spl_last1 (numL_free (by omega))]
    rfl
  rw [e]
  have ef : foundQ (numL z.toNat) (rows.map rowL) = .tup [.int z, .tup rows] := by
    unfold foundQ
    rw [digQ_num (by omega), show ((z.toNat : Nat) : Int) = z by omega, List.map_map, map_id' (fun r m => by exact rowQ_L (ok.r r m) (by omega))]
  show (if [115, 105, 122, 101] = [115, 105, 122, 101] then _ else _) = _
  rw [if_pos rfl, ef, ok.mach, show machXT (.tup [.int z, .tup rows]) = machL z rows from rfl, decide_eq_true rfl]
  rfl
theorem readM_cases (t : Th) : readM t = .non ∨ ∃ z rows x, MOk z rows ∧ t = .str x ∧ tl x = machL z rows := by
  cases t with
  | str x =>
    unfold readM
    show (if (machB (machR (tl x)) && decide (machXT (machR (tl x)) = tl x)) = true then machR (tl x) else .non) = .non ∨ _
    cases e : machB (machR (tl x)) with
    | false => exact .inl rfl
    | true =>
      obtain ⟨z, rows, em, ok⟩ := machB_ok e
      by_cases h : machXT (machR (tl x)) = tl x
      · exact .inr ⟨z, rows, x, ok, rfl, by rw [← h, em]; rfl⟩
      · rw [decide_eq_false h]
        exact .inl rfl
  | _ => exact .inl rfl
theorem readQ_cases (t : Th) : readQ t = .non ∨ ∃ z rows x, MOk z rows ∧ t = .str x ∧ tl x = machL z rows := by
  cases t with
  | str x =>
    have key : ∀ f : Th, (if (machB f && decide (machXT f = tl x)) = true then f else .non) = .non ∨ ∃ z rows y, MOk z rows ∧ Th.str x = .str y ∧ tl y = machL z rows := fun f => by
      cases e : machB f with
      | false => exact .inl rfl
      | true =>
        obtain ⟨z, rows, em, ok⟩ := machB_ok e
        by_cases h : machXT f = tl x
        · exact .inr ⟨z, rows, x, ok, rfl, by rw [← h, em]; rfl⟩
        · rw [decide_eq_false h]
          exact .inl rfl
    unfold readQ
    show (if lastNl (tl x) = true then _ else _) = _ ∨ _
    split
    · split
      · split
        · split
          · exact key _
          · exact .inl rfl
        · exact .inl rfl
      · exact .inl rfl
    · exact .inl rfl
  | _ => exact .inl rfl
theorem read_same (t : Th) : readM t = readQ t := by
  rcases readM_cases t with e | ⟨z, rows, x, ok, rfl, h⟩
  · rcases readQ_cases t with e2 | ⟨z, rows, x, ok, rfl, h⟩
    · rw [e, e2]
    · rw [readM_text ok h, readQ_text ok h]
  · rw [readM_text ok h, readQ_text ok h]
end KL
end
section
set_option maxHeartbeats 1000000
namespace KL
open PySem PySem.Spec PyProof.Rows L2
/-! ### defs that are only called where nothing is being told by repr -/
theorem run_oneG {P : Program} {w : World} {K : PySem.W.Frag} {mg : Str → Option Value} {base : Heap} {k : Nat} {x : Str} {st : Stmt} {f : Addr} {fd : FuncData} {N ps : List Str} {A : Around} {outer : List Env} {s : Shared} {H : Hp} {args : Args} {us : List Value} {vs : List V} {Q : VK} {E : XK}
    (F : Fun K x x st f fd) (S : FnScope N ps (defScope st)) (hr : Room (k + 1) A) (e0 : Env0 P w K mg base A outer s H) (hb : BindsTo s fd args (ps.zip us)) (r : Vals vs us) (hl : vs.length = ps.length)
    (body : ∀ cdv, Room k (A.deeper (envOfC x (defScope st) s.heap.objs.size f cdv)) → ∃ t, PSs (cxOf CX0 P w K mg base N x (defScope st) f cdv A outer s H E).nox (defBody st) t ∧ t { nx := fun _ H' => Q .non H', rt := Q } (L2.start N vs) H) :
    codeAny (model P w) A (.call (.ref f) args) (CR CX0 outer P w H s Q E) s := by
  obtain ⟨oc, od, kV, doc, pm, an, cdv, ct, osl, rfl, lk, hcd⟩ := F.ex
  have kin : K.In s.heap := e0.mod.kin.keeps fun b o q => (e0.bs b o q).1
  have room1 := e0.mod.nolimit.keeps fun b o q => (e0.bs b o q).1
  have kinds : ∀ y ∈ ps.zip us, (defScope st).names.lookup y.1 = some .local ∨ ((defScope st).names.lookup y.1 = some .cell ∧ ((cellsFrom (s.heap.objs.size + 1) (defScope st).names []).lookup y.1).isSome = true) := by
    rintro ⟨n, v⟩ hy
    have hm := (List.of_mem_zip hy).1
    rcases S.par n hm with z | z
    · exact .inl z
    · exact .inr ⟨z, PySem.W.cellsFrom_some _ _ _ (.inl z)⟩
  refine codeAny_call_function hr.depth (kin _ _ lk) rfl S.co S.gen rfl (PySem.W.codeRec_of kin hcd) (hb _ _ _ _ ?_)
  refine wpAny_newFunctionEnv_cells S.kind kinds fun e1 he1 st1 xx => ?_
  subst he1
  refine ⟨room1.keeps xx.toInCall.keep, codeAny_func ?_⟩
  obtain ⟨t, ht, hq⟩ := body cdv (hr.deeper _)
  have J : Inv (cxOf CX0 P w K mg base N x (defScope st) f cdv A outer s H E) [] (L2.start N vs) H st1 := inv_start S hr.hd e0 hl r xx
  refine wpAny_mono (ht.nox.run [] st1 (L2.start N vs) H _ J hq) (fun fl s2 hs => ?_) fun e s2 hs => hs
  cases fl with
  | ret u =>
    obtain ⟨v, σ2, H2, J2, rv, q2⟩ := hs
    exact ⟨v, H2, J2.os, J2.bare, J2.base, J2.hok, rv, q2⟩
  | next =>
    obtain ⟨σ2, H2, J2, q2⟩ := hs
    exact ⟨V.non, H2, J2.os, J2.bare, J2.base, J2.hok, rfl, q2⟩
  | brk => obtain ⟨_, _, _, q2⟩ := hs; exact q2.elim
  | cont => obtain ⟨_, _, _, q2⟩ := hs; exact q2.elim
structure FnG (P : Program) (w : World) (K : PySem.W.Frag) (mg : Str → Option Value) (base : Heap) (k : Nat) (f : Addr) (fd : FuncData) (ps : List Str) (sp : Sp) : Prop where
  len : ∀ vs H Q E, sp vs H Q E → vs.length = ps.length
  run : ∀ (A : Around) (outer : List Env) (s : Shared) (H : Hp) (args : Args) (us : List Value) (vs : List V) (Q : VK) (E : XK), Room k A → A.guards = some [] → Env0 P w K mg base A outer s H → BindsTo s fd args (ps.zip us) → Vals vs us → sp vs H Q E →
    codeAny (model P w) A (.call (.ref f) args) (CR CX0 outer P w H s Q E) s
structure CalG (P : Program) (w : World) (K : PySem.W.Frag) (mg : Str → Option Value) (base : Heap) (k : Nat) (x : Str) (ps : List Str) (sp : Sp) : Prop where
  ex : ∃ f fd, FnG P w K mg base k f fd ps sp ∧ mg x = some (.ref f) ∧ PySem.W.keepIn K (.ref f) = true ∧ Binds K fd ps []
section
variable {P : Program} {w : World} {K : PySem.W.Frag} {mg : Str → Option Value} {base : Heap} {k j : Nat}
theorem CalG.mono {x : Str} {ps : List Str} {sp : Sp} (c : CalG P w K mg base j x ps sp) (h : j ≤ k) : CalG P w K mg base k x ps sp :=
  let ⟨f, fd, a, b, c, d⟩ := c.ex; ⟨f, fd, ⟨a.len, fun A outer s H args us vs Q E hr => a.run A outer s H args us vs Q E (hr.mono h)⟩, b, c, d⟩
theorem Def.okG {x : Str} {st : Stmt} {N ps : List Str} {sp : Sp} (d : Def K mg x st ps) (S : FnScope N ps (defScope st)) (len : ∀ vs H Q E, sp vs H Q E → vs.length = ps.length)
    (body : ∀ (f : Addr) (cdv : Value) (A : Around) (outer : List Env) (s : Shared) (H : Hp) (vs : List V) (Q : VK) (E : XK), A.guards = some [] → Room k (A.deeper (envOfC x (defScope st) s.heap.objs.size f cdv)) → sp vs H Q E →
      ∃ t, PSs (cxOf CX0 P w K mg base N x (defScope st) f cdv A outer s H E).nox (defBody st) t ∧ t { nx := fun _ H' => Q .non H', rt := Q } (start N vs) H) : CalG P w K mg base (k + 1) x ps sp := by
  obtain ⟨f, fd, F, m, b⟩ := d.ex
  refine ⟨f, fd, ⟨len, fun A outer s H args us vs Q E hr hg e0 hb r h => ?_⟩, m, F.kp, b⟩
  exact run_oneG F S hr e0 hb r (len _ _ _ _ h) fun cdv room => body f cdv A outer s H vs Q E hg room h
end
section
variable {X : Cx} {k : Nat} {x : Str} {ps : List Str} {sp : Sp} {e : Expr} {es : List Expr} {t : TA} {p pos : Pos}
theorem pe_calG (C : CalG X.prog X.w X.K X.mg X.base k x ps sp) (hr : Room k X.A) (hgd : X.A.guards = some []) (hg : Gl X x) (ha : PA X (e :: es) t) (hdb : (x == ("__debug__" : Str)) = false := by decide)
    (he : starEach (e :: es) X.env = (false, eval e X.env) :: starEach es X.env := by rfl) (hpl : (backTo pos (starEach es X.env)).any (·.1) = false := by rfl) :
    PE X (.Call (.Name x p) (e :: es) [] pos) (tCall sp [] E0 t) := by
  obtain ⟨f, fd, F, hm, hk, hb⟩ := C.ex
  refine ⟨fun pins s σ H Q I h => ?_⟩
  refine wpAny_Call_Name_kw (ld_glob I hg hm ?_ hdb)
  refine PySem.W.callWith_K (h₀ := X.base) I.ok.mod.kin hk (thn (ha.run pos pins s σ H _ I h) fun us s1 ⟨vs, H1, I1, r, q⟩ => ⟨I1.kIn, ?_⟩) he hpl
  have q' : sp vs H1 Q E0 := by have q2 : sp (vs ++ []) H1 Q E0 := q; rwa [List.append_nil] at q2
  have hl : us.length = ps.length := by rw [← r.length]; exact F.len _ _ _ _ q'
  have hb' := hb s1 us I1.kIn (by rw [List.append_nil]; exact hl)
  rw [List.append_nil] at hb'
  refine wpAny_call (codeAny_mono (F.run X.A X.stack s1 H1 ⟨us, []⟩ us vs Q E0 hr hgd I1.env0 hb' r q') fun r s' hq => ?_)
  cases r with
  | error e => exact pass0 pins σ H1 s1 e s' I1 hq
  | ok fl =>
    cases fl with
    | ret u => exact I1.after hq
    | next => exact False.elim hq
    | brk => exact False.elim hq
    | cont => exact False.elim hq
end
end KL
end
section
set_option maxHeartbeats 1000000
namespace KL
open PySem PySem.Spec PyProof.Rows L2 TL
abbrev sc_law_digitsN : List Str := ["_law_word", "_law_sign"]
abbrev s_law_digits : Stmt := topS 43
theorem sc_law_digits : FnScope ["_law_word", "_law_sign"] ["_law_word"] (defScope s_law_digits) := ⟨rfl, rfl, rfl, by decide +kernel, rfl, by decide +kernel, by decide +kernel⟩
abbrev sc_law_read_stepN : List Str := ["_law_word", "_law_parts", "_law_numbers"]
abbrev s_law_read_step : Stmt := topS 44
theorem sc_law_read_step : FnScope ["_law_word", "_law_parts", "_law_numbers"] ["_law_word"] (defScope s_law_read_step) := ⟨rfl, rfl, rfl, by decide +kernel, rfl, by decide +kernel, by decide +kernel⟩
abbrev sc_law_read_rowN : List Str := ["_law_line", "_law_words", "_law_end_here", "_law_word"]
abbrev s_law_read_row : Stmt := topS 45
theorem sc_law_read_row : FnScope ["_law_line", "_law_words", "_law_end_here", "_law_word"] ["_law_line"] (defScope s_law_read_row) := ⟨rfl, rfl, rfl, by decide +kernel, rfl, by decide +kernel, by decide +kernel⟩
abbrev sc_law_readN : List Str := ["_law_text", "_law_lines", "_law_words", "_law_found", "_law_line"]
abbrev s_law_read : Stmt := topS 46
theorem sc_law_read : FnScope ["_law_text", "_law_lines", "_law_words", "_law_found", "_law_line"] ["_law_text"] (defScope s_law_read) := ⟨rfl, rfl, rfl, by decide +kernel, rfl, by decide +kernel, by decide +kernel⟩
def spDigQ : Sp := fun vs H Q _ => ∃ x : Str, vs = [.str x] ∧ x.length ≤ 1000000 ∧ ∀ v H', Same H H' → (∀ Z, At Z H' (digQ (tl x)) v) → Q v H'
def spStepQ : Sp := fun vs H Q _ => ∃ x : Str, vs = [.str x] ∧ x.length ≤ 900000 ∧ ∀ v H', Same H H' → At (Trk H) H' (stepQ (tl x)) v → Q v H'
def spRowQ : Sp := fun vs H Q _ => ∃ x : Str, vs = [.str x] ∧ x.length ≤ 900000 ∧ ∀ v H', Same H H' → At (Trk H) H' (rowQ (tl x)) v → Q v H'
def spReadQ : Sp := fun vs H Q _ => ∃ (Z : Zone) (t : Th) (v : V), vs = [v] ∧ At Z H t v ∧ (∀ x, t = .str x → x.length ≤ 900000) ∧ ∀ v' H', Same H H' → At (Trk H) H' (readQ t) v' → Q v' H'
theorem digV_lt {w : List Nat} (h : digOk w = true) : NumText.digitsVal w < 100 := by
  obtain ⟨ad, l1, l2⟩ := digOk_all h
  match w, ad, l1, l2 with
  | [a], ad, _, _ =>
    have := ad a (by simp)
    show 0 * 10 + (a - 48) < 100
    omega
  | [a, b], ad, _, _ =>
    have h1 := ad a (by simp)
    have h2 := ad b (by simp)
    show (0 * 10 + (a - 48)) * 10 + (b - 48) < 100
    omega
section
variable {P : Program} {w : World} {K : PySem.W.Frag} {mg : Str → Option Value} {base : Heap} {k : Nat}
theorem ok_law_digits (Z : Zs mg) (d : Def K mg "_law_digits" s_law_digits ["_law_word"]) : Cal P w K mg base CX0 (k + 1) "_law_digits" ["_law_word"] spDigQ := by
  refine d.ok sc_law_digits (fun vs H Q E h => ?_) (fun f cdv A outer s H vs Q E hr h => ?_)
  · obtain ⟨_, rfl, _⟩ := h; rfl
  obtain ⟨x, rfl, sx, q⟩ := h
  refine ⟨_, (pss_cons (ps_if (PW.pt (pw_or (pt_cmpR op_eq (pe_callB (id := "len") call_len_str (by rfl) Z.len (by decide +kernel) (pa_cons (pv 0) pa_nil)) pe_int (nomark _)) (pw_or1 (pt_cmpR op_gt (pe_callB (id := "len") call_len_str (by rfl) Z.len (by decide +kernel) (pa_cons (pv 0) pa_nil)) pe_int (nomark _))))) (pss_one (ps_ret pe_non)) pss_nil)
      (pss_cons (ps_if (PW.pt (pw_or (pt_not (pt_val (pe_callB (id := "all") (cr_all rfl) (by rfl) Z.all (by decide +kernel) (pa_cons (pe_lc (own := [("_law_sign", 1)]) (g := gName 1) (tt := tYes) rfl sc_law_digits.nd (pi_str (pv 0)) (blkOk_by (N := ["_law_word", "_law_sign"]) (sc := defScope s_law_digits) (by decide +kernel)) (fun _ _ _ _ _ => (pg_name (i := 1) sc_law_digits.nd rfl (Or.inl rfl))) (fun _ _ _ _ _ => pts_nil) (fun _ _ _ _ _ => (pe_cmpR op_in_sign (pv 1) pe_str (by rfl)))) pa_nil)))) (pw_or1 (pt_cmpR op_ne (pe_callTy (T := "str") call_str_int (by rfl) Z.str (by decide +kernel) (pa_cons (pe_callTy (T := "int") call_int_str (by rfl) Z.int (by decide +kernel) (pa_cons (pv 0) pa_nil)) pa_nil)) (pv 0) (nomark _))))) (pss_one (ps_ret pe_non)) pss_nil)
      (pss_one (ps_ret (pe_callTy (T := "int") call_int_str (by rfl) Z.int (by decide +kernel) (pa_cons (pv 0) pa_nil)))))), ?_⟩
  have lx : x.length ≤ sizeLine := by rw [sizeLine_eq]; omega
  have lt := len_tl x
  have no : ∀ H', Same H H' → digOk (tl x) = false → Q .non H' := fun H' s' e => by
    refine q .non H' s' fun Z => ?_
    rw [digQ, e]
    rfl
  refine rd_ifs (decide (x.length = 0) || decide (2 < x.length)) (fun R hR => ?_) (fun H2 s2 e => ?_) (fun H2 s2 e => ?_)
  · have r1 := hR H (Same.refl H)
    refine ⟨_, rfl, x, rfl, lx, rfl, _, rfl, ?_⟩
    by_cases h0 : x.length = 0
    · rw [decide_eq_true h0, Bool.true_or] at r1
      rw [decide_eq_true (by rw [h0]; rfl)]
      exact iteT r1
    · rw [decide_eq_false h0, Bool.false_or] at r1
      rw [decide_eq_false (fun e => h0 (by injection e with e; omega))]
      refine iteF ⟨_, rfl, x, rfl, lx, _, _, rfl, rfl, _, rfl, ?_⟩
      rw [show decide ((2 : Int) < (x.length : Int)) = decide (2 < x.length) from decide_eq_decide.mpr (by omega)]
      exact r1
  · refine no H2 s2 ?_
    unfold digOk
    rw [Bool.or_eq_true, decide_eq_true_eq, decide_eq_true_eq] at e
    rcases e with e | e
    · rw [decide_eq_false (show ¬ 1 ≤ (tl x).length by omega), Bool.false_and, Bool.false_and]
    · rw [decide_eq_false (show ¬ (tl x).length ≤ 2 by omega), Bool.and_false, Bool.false_and]
  rw [Bool.or_eq_false_iff, decide_eq_false_iff_not, decide_eq_false_iff_not] at e
  have eOk : digOk (tl x) = (tl x).all isDg := by
    unfold digOk
    rw [decide_eq_true (show 1 ≤ (tl x).length by omega), decide_eq_true (show (tl x).length ≤ 2 by omega)]
    rfl
  have toI : ∀ ok : digOk (tl x) = true, intText? x = some ((NumText.digitsVal (tl x) : Nat) : Int) := fun ok => by
    obtain ⟨ad, l1, l2⟩ := digOk_all ok
    exact intText_digits (x := x) ad (fun e => by rw [show tl x = [] from e] at l1; exact absurd l1 (by decide)) (by omega)
  refine rd_ifs (!(digOk (tl x) && decide (numL (NumText.digitsVal (tl x)) = tl x))) (fun R hR => ?_) (fun H3 s3 e3 => ?_) (fun H3 s3 e3 => ?_)
  · refine ⟨_, rfl, x, rfl, lc_blS (f := isDg) (by rw [← Str.length]; omega) (fun _ => rfl) (fun c H3 s3 R2 hR2 => ?_) (fun D H4 s4 hD eD => ⟨D, _, rfl, .of eD, ?_⟩)⟩
    · refine ⟨_, rfl, c, _, rfl, rfl, ?_⟩
      rw [digits_tl]
      exact hR2 H3 (Same.refl H3)
    · have r1 := hR H4 s4
      rw [show ((x.cps.toList.map isDg).all id) = digOk (tl x) by rw [eOk, List.all_map]; rfl]
      cases ok : digOk (tl x) with
      | false => rw [ok] at r1; exact ⟨_, rfl, iteT r1⟩
      | true =>
        rw [ok, Bool.true_and] at r1
        have := digV_lt ok
        refine ⟨_, rfl, iteF ⟨_, rfl, x, _, rfl, toI ok, by omega, _, rfl, log_small (by omega), _, rfl, rfl, _, rfl, ?_⟩⟩
        rw [eq_tl, tl_num]
        exact r1
  · refine q .non H3 (s2.trans s3) fun Z => ?_
    have e4 := not_true e3
    rw [digQ, e4]
    rfl
  · have e4 := not_false' e3
    have ok : digOk (tl x) = true := (Bool.and_eq_true _ _ ▸ e4).1
    refine ⟨_, rfl, x, _, rfl, toI ok, by omega, ?_⟩
    refine q _ H3 (s2.trans s3) fun Z => ?_
    rw [digQ, e4]
    rfl
theorem isN_int {t : Th} {H : Hp} {v : V} (h : ∀ Z, At Z H t v) : decide (v = .non) = isNon t := (h fun _ => False).isN
theorem ok_law_read_step (Z : Zs mg) (c_law_digits : Cal P w K mg base CX0 k "_law_digits" ["_law_word"] spDigQ) (d : Def K mg "_law_read_step" s_law_read_step ["_law_word"]) : Cal P w K mg base CX0 (k + 1) "_law_read_step" ["_law_word"] spStepQ := by
  refine d.ok sc_law_read_step (fun vs H Q E h => ?_) (fun f cdv A outer s H vs Q E hr h => ?_)
  · obtain ⟨_, rfl, _⟩ := h; rfl
  obtain ⟨x, rfl, sx, q⟩ := h
  refine ⟨_, (pss_cons (ps_if (pt_cmpR op_eq (pv 0) pe_str (nomark _)) (pss_one (ps_ret pe_non)) pss_nil)
      (pss_cons (ps_set (i := 1) sc_law_read_step.nd rfl (Or.inl rfl) (pe_split (pv 0) pe_str))
      (pss_cons (ps_if (pt_cmpR op_ne (pe_callB (id := "len") call_len_seq (by rfl) Z.len (by decide +kernel) (pa_cons (pv 1) pa_nil)) pe_int (nomark _)) (pss_one (ps_ret pe_str)) pss_nil)
      (pss_cons (ps_set (i := 2) sc_law_read_step.nd rfl (Or.inl rfl) (pe_tup (pa_cons (pe_cal c_law_digits hr (by rfl) (pa_cons (pe_ix ix_list (pv 1) pe_int (fun _ _ => rfl)) pa_nil)) (pa_cons (pe_cal c_law_digits hr (by rfl) (pa_cons (pe_ix ix_list (pv 1) pe_int (fun _ _ => rfl)) pa_nil)) pa_nil))))
      (pss_one (ps_ret (pe_ix ix_list (pe_lst (pa_cons (pv 2) (pa_cons pe_str pa_nil))) (pe_callTy (T := "int") call_int1 (by rfl) Z.int (by decide +kernel) (pa_cons (pe_or (pe_cmpR op_isN (pe_ix ix_tup (pv 2) pe_int (fun _ _ => rfl)) pe_non (nomark _)) (pe_one (pe_cmpR op_isN (pe_ix ix_tup (pv 2) pe_int (fun _ _ => rfl)) pe_non (nomark _)))) pa_nil)) (fun _ _ => rfl)))))))), ?_⟩
  have lx : x.length ≤ sizeLine := by rw [sizeLine_eq]; omega
  have lt := len_tl x
  have e45 : tl ("-" : Str) = [45] := by decide +kernel
  refine ⟨_, rfl, rfl, _, rfl, ?_⟩
  rw [eq_tl, e45]
  by_cases h : tl x = [45]
  · rw [decide_eq_true h]
    refine iteT (q _ H (Same.refl H) ?_)
    rw [stepQ, if_pos h]
    rfl
  rw [decide_eq_false h]
  refine iteF ?_
  have es := split_spl1 x 58 ":" (by decide +kernel) (by omega)
  obtain ⟨ll, lp⟩ := spl_le [58] (tl x) []
  rw [← es, List.length_map] at ll
  rw [← es] at lp
  have q' : ∀ v H', Same H H' → At (Trk H) H' (match (Txt.split x ":").map tl with | [a, b] => (if (isNon (digQ a) || isNon (digQ b)) = true then Th.str "none" else .tup [digQ a, digQ b]) | _ => .str "none") v → Q v H' := by
    rw [es]
    intro v H' s' a'
    refine q v H' s' ?_
    rw [stepQ, if_neg h]
    exact a'
  have lw : ∀ y ∈ Txt.split x ":", y.length ≤ 1000000 := fun y m => by
    have := lp (tl y) (List.mem_map.mpr ⟨y, m, rfl⟩)
    rw [List.length_nil] at this
    rw [len_tl]; omega
  refine ⟨_, rfl, ⟨_, rfl⟩, _, _, rfl, rfl, by decide +kernel, by rw [sizeLine_eq]; omega, fun p np => ?_⟩
  have y1 := same_new np (.lst ((Txt.split x ":").map V.str))
  generalize Txt.split x ":" = ws at y1 q' lw
  have e1 := upd_same (H := H) (a := p) (o := .lst (ws.map V.str))
  generalize upd H p (.lst (ws.map V.str)) = H1 at y1 e1
  dsimp only [gName]
  refine ⟨_, rfl, p, _, rfl, .inl (.of e1), rfl, _, rfl, ?_⟩
  rw [List.length_map]
  by_cases h2 : ws.length = 2
  · rw [decide_eq_true (by rw [h2]; rfl)]
    refine iteF ?_
    match ws, h2 with
    | [a, b], _ =>
    have la := lw a (by simp)
    have lb := lw b (by simp)
    refine ⟨_, rfl, p, _, 0, .str a, rfl, rfl, .of e1, rfl, a, rfl, la, fun v1 H2 s2 a2 => ⟨_, rfl, p, _, 1, .str b, rfl, rfl, .of (s2 _ _ e1), rfl, b, rfl, lb, fun v2 H3 s3 a3 => ⟨(by show 2 ≤ sizeLine; decide), fun p2 np2 => ?_⟩⟩⟩
    have y2 := same_new np2 (.tup [v1, v2])
    have s0 := y1.trans (s2.trans s3)
    refine ⟨_, rfl, (by show 2 ≤ sizeLine; decide), fun L nL => ?_⟩
    have yL := same_new nL (.lst [.ref p2, .str "none"])
    have eT := yL _ _ (upd_same (H := H3) (a := p2) (o := .tup [v1, v2]))
    have aT : ∀ Z', At Z' H (digQ (tl a)) v1 → True := fun _ _ => trivial
    have i1 : decide (v1 = .non) = isNon (digQ (tl a)) := (a2 (Trk H)).isN
    have i2 : decide (v2 = .non) = isNon (digQ (tl b)) := (a3 (Trk H)).isN
    have sE := s0.trans (y2.trans yL)
    have fin : ∀ b' : Bool, b' = (isNon (digQ (tl a)) || isNon (digQ (tl b))) → ∃ u, atI [V.ref p2, .str "none"] (if b' = true then 1 else 0) = some u ∧ Q u (upd (upd H3 p2 (.tup [v1, v2])) L (.lst [.ref p2, .str "none"])) := fun b' eb => by
      cases b' with
      | true =>
        refine ⟨_, rfl, q' _ _ sE ?_⟩
        show At _ _ (if (isNon (digQ (tl a)) || isNon (digQ (tl b))) = true then _ else _) _
        rw [← eb]
        rfl
      | false =>
        refine ⟨_, rfl, q' _ _ sE ?_⟩
        show At _ _ (if (isNon (digQ (tl a)) || isNon (digQ (tl b))) = true then _ else _) _
        rw [← eb]
        exact ⟨p2, _, rfl, fun t => Trk.not np2 (Trk.same s0 t), eT, .cons (((a2 _).same s3).same (y2.trans yL)) (.cons ((a3 _).same (y2.trans yL)) .nil)⟩
    refine ⟨_, rfl, p2, _, 0, v1, rfl, rfl, .of eT, rfl, rfl, _, rfl, ?_⟩
    rw [i1]
    cases hN : isNon (digQ (tl a)) with
    | true =>
      obtain ⟨u, eu, qu⟩ := fin true (by rw [hN]; rfl)
      exact .inr ⟨_, rfl, L, _, _, u, rfl, rfl, .of upd_same, eu, qu⟩
    | false =>
      refine ⟨_, rfl, p2, _, 1, v2, rfl, rfl, .of eT, rfl, rfl, .inr ⟨_, rfl, ?_⟩⟩
      rw [i2]
      obtain ⟨u, eu, qu⟩ := fin (isNon (digQ (tl b))) (by rw [hN, Bool.false_or])
      exact ⟨L, _, _, u, rfl, rfl, .of upd_same, eu, qu⟩
  · rw [decide_eq_false (fun e => h2 (by injection e with e; omega))]
    refine iteT (q' _ H1 y1 ?_)
    match ws, h2 with
    | [], _ => rfl
    | [a], _ => rfl
    | a :: b :: c :: r, _ => rfl
theorem cutS_last (z : Str) : tl (cutS z (some (-1)) none) = (tl z).drop ((tl z).length - 1) := by
  rw [tl_cutS, HT.sIx_none]
  have e : HT.sIx (tl z).length 0 (some (-1)) = (tl z).length - 1 := by
    show (if (-1 : Int) < 0 then ((-1 : Int) + ((tl z).length : Int)).toNat else min ((-1 : Int)).toNat (tl z).length) = _
    rw [if_pos (by decide)]
    omega
  rw [e]
  exact List.take_of_length_le (by rw [List.length_drop]; omega)
theorem cutV_tail (x : V) (xs : List V) : cutV (x :: xs) (some 1) none = xs := by
  unfold cutV
  have e : HT.sIx (x :: xs).length 0 (some 1) = 1 := by
    have := HT.sIx_nat (x :: xs).length 0 1
    rw [List.length_cons] at this ⊢
    rw [show (some (1 : Int)) = some ((1 : Nat) : Int) from rfl, this]
    omega
  rw [e, HT.sIx_none, List.drop_one, List.tail_cons, List.length_cons, Nat.add_sub_cancel, List.take_length]
theorem ok_law_read_row (Z : Zs mg) (c_law_digits : Cal P w K mg base CX0 k "_law_digits" ["_law_word"] spDigQ) (c_law_read_step : Cal P w K mg base CX0 k "_law_read_step" ["_law_word"] spStepQ) (d : Def K mg "_law_read_row" s_law_read_row ["_law_line"]) : Cal P w K mg base CX0 (k + 1) "_law_read_row" ["_law_line"] spRowQ := by
  refine d.ok sc_law_read_row (fun vs H Q E h => ?_) (fun f cdv A outer s H vs Q E hr h => ?_)
  · obtain ⟨_, rfl, _⟩ := h; rfl
  obtain ⟨x, rfl, sx, q⟩ := h
  refine ⟨_, (pss_cons (ps_set (i := 1) sc_law_read_row.nd rfl (Or.inl rfl) (pe_split (pv 0) pe_str))
      (pss_cons (ps_set (i := 2) sc_law_read_row.nd rfl (Or.inl rfl) (pe_cal c_law_digits hr (by rfl) (pa_cons (pe_ix ix_list (pv 1) pe_int (fun _ _ => rfl)) pa_nil)))
      (pss_cons (ps_if (PW.pt (pw_and (pt_cmpR op_isN (pv 2) pe_non (nomark _)) (pw_and1 (pt_cmpR op_ne (pe_ix ix_list (pv 1) pe_int (fun _ _ => rfl)) pe_str (nomark _))))) (pss_one (ps_ret pe_str)) pss_nil)
      (pss_one (ps_ret (pe_tup (pa_cons (pv 2) (pa_cons (pe_callTy (T := "tuple") call_tuple_of (by rfl) Z.tuple (by decide +kernel) (pa_cons (pe_lc (own := [("_law_word", 3)]) (g := gName 3) (tt := tYes) rfl sc_law_read_row.nd (pi_list (pe_slice sl_list (pv 1) (po_some pe_int) po_none)) (blkOk_by (N := ["_law_line", "_law_words", "_law_end_here", "_law_word"]) (sc := defScope s_law_read_row) (by decide +kernel)) (fun _ _ _ _ _ => (pg_name (i := 3) sc_law_read_row.nd rfl (Or.inl rfl))) (fun _ _ _ _ _ => pts_nil) (fun _ _ _ _ _ => (pe_cal c_law_read_step hr (by rfl) (pa_cons (pv 3) pa_nil)))) pa_nil)) pa_nil)))))))), ?_⟩
  have lt := len_tl x
  have e45 : tl ("-" : Str) = [45] := by decide +kernel
  have es := split_spl1 x 32 " " (by decide +kernel) (by omega)
  obtain ⟨ll, lp⟩ := spl_le [32] (tl x) []
  rw [← es, List.length_map] at ll
  rw [← es] at lp
  have eR : rowQ (tl x) = (match (Txt.split x " ").map tl with | e :: ss => (if (isNon (digQ e) && !decide (e = [45])) = true then Th.str "none" else .tup [digQ e, .tup (ss.map stepQ)]) | [] => .non) := by rw [es]; rfl
  cases eS : Txt.split x " " with
  | nil => exact absurd (by rw [← es, eS]; rfl) (spl_ne [32] (tl x) [])
  | cons e ss =>
  rw [eS] at ll lp eR
  rw [List.length_cons] at ll
  have lw : ∀ y ∈ e :: ss, y.length ≤ 900000 := fun y m => by
    have := lp (tl y) (List.mem_map.mpr ⟨y, m, rfl⟩)
    rw [List.length_nil] at this
    rw [len_tl]; omega
  refine ⟨_, rfl, ⟨_, rfl⟩, _, _, rfl, rfl, by decide +kernel, by rw [sizeLine_eq]; omega, fun p np => ?_⟩
  rw [eS]
  have y1 := same_new np (.lst ((e :: ss).map V.str))
  have e1 := upd_same (H := H) (a := p) (o := .lst ((e :: ss).map V.str))
  generalize upd H p (.lst ((e :: ss).map V.str)) = H1 at y1 e1
  dsimp only [gName]
  refine ⟨_, rfl, p, _, 0, .str e, rfl, rfl, .of e1, atI_n (s := 0) rfl, e, rfl, Nat.le_trans (lw e List.mem_cons_self) (by omega), fun v1 H2 s2 a1 => ?_⟩
  have i1 : decide (v1 = .non) = isNon (digQ (tl e)) := (a1 (Trk H)).isN
  have s12 := y1.trans s2
  have e2 := s2 _ _ e1
  dsimp only [gName]
  refine rd_ifs (isNon (digQ (tl e)) && !decide (tl e = [45])) (fun R hR => ?_) (fun H3 s3 c => ?_) (fun H3 s3 c => ?_)
  · have r1 := hR H2 (Same.refl H2)
    refine ⟨_, rfl, rfl, _, rfl, ?_⟩
    rw [i1]
    cases hN : isNon (digQ (tl e)) with
    | false => rw [hN] at r1; exact iteF r1
    | true =>
      rw [hN] at r1
      refine iteT ⟨_, rfl, p, _, 0, .str e, rfl, rfl, .of e2, atI_n (s := 0) rfl, rfl, _, rfl, ?_⟩
      rw [eq_tl, e45]
      exact r1
  · refine q _ H3 (s12.trans s3) ?_
    rw [eR]
    show At _ _ (if (isNon (digQ (tl e)) && !decide (tl e = [45])) = true then _ else _) _
    rw [c]
    rfl
  · have e3 := s3 _ _ e2
    refine ⟨_, rfl, _, rfl, _, rfl, p, _, rfl, .of e3, fun L nL => ?_⟩
    rw [show cutV ((e :: ss).map V.str) (some 1) none = ss.map V.str from cutV_tail _ _]
    have y3 := same_new nL (.lst (ss.map V.str))
    have eL := upd_same (H := H3) (a := L) (o := .lst (ss.map V.str))
    have s02 := s12.trans (s3.trans y3)
    generalize upd H3 L (.lst (ss.map V.str)) = H4 at y3 eL s02
    refine ⟨L, rfl, ⟨_, .of eL⟩, lc_newW (f := fun j => stepQ (tl ((ss[j]?).getD Str.empty))) walk_list (fun _ _ _ _ h => h) (fun H' s' => .of (s' _ _ eL)) (by rw [List.length_map]; omega) (fun _ => rfl) (fun j x H2 hj ex s2 R hR => ?_) (fun D2 H5 vs4 s4 hD eD2 aD => ?_)⟩
    · obtain ⟨y, ey, rfl⟩ := strs_get ex
      refine ⟨_, rfl, y, rfl, lw y (List.mem_cons_of_mem _ (List.mem_of_getElem? ey)), fun v' H3 s3 a3 => hR v' H3 s3 ?_⟩
      rw [ey]
      exact a3
    · refine ⟨D2, vs4, rfl, .inl ⟨.of eD2, fun p5 n5 => ?_⟩⟩
      have z5 := same_new n5 (.tup vs4)
      refine ⟨(by show 2 ≤ sizeLine; decide), fun p6 n6 => ?_⟩
      have z6 := same_new n6 (.tup [v1, .ref p5])
      have s6 := s4.trans (z5.trans z6)
      refine q _ _ (s02.trans s6) ?_
      rw [eR]
      show At _ _ (if (isNon (digQ (tl e)) && !decide (tl e = [45])) = true then _ else _) _
      rw [c]
      refine ⟨p6, _, rfl, fun t => Trk.not n6 (Trk.same (s02.trans (s4.trans z5)) t), upd_same, .cons ((a1 _).same (s3.trans (y3.trans s6))) (.cons ⟨p5, vs4, rfl, fun t => Trk.not n5 (Trk.same (s02.trans s4) t), z6 _ _ upd_same, ?_⟩ .nil)⟩
      rw [List.length_map, range_map_get (fun y => stepQ (tl y))] at aD
      have := ((aD.less fun a h => .inr (Trk.same s02 h)).same z5).same z6
      rw [List.map_map]
      exact this
end
end KL
end
section
set_option maxHeartbeats 1000000
namespace KL
open PySem PySem.Spec PyProof.Rows L2 TL
theorem foundQ_short {b : List Nat} {ls : List (List Nat)} (h : ls.length ≤ 900001) (hl : ∀ l ∈ ls, l.length ≤ 900000) : shortT (foundQ b ls) = true := by
  have hd : ∀ w, shortT (digQ w) = true := fun w => by rcases digQ_is w with e | ⟨i, e⟩ <;> rw [e] <;> rfl
  have hs : ∀ w, shortT (stepQ w) = true := fun w => by
    unfold stepQ
    split
    · rfl
    · split
      · split
        · decide +kernel
        · rw [shortT, shortL, shortL, shortL, hd, hd]; rfl
      · decide +kernel
  have hr : ∀ w : List Nat, w.length ≤ 900000 → shortT (rowQ w) = true := fun w hw => by
    have hl := (spl_le [32] w []).1
    unfold rowQ
    cases e : spl [32] 0 [] w with
    | nil => exact absurd e (spl_ne _ _ _)
    | cons a ss =>
      rw [e, List.length_cons] at hl
      show shortT (if (isNon (digQ a) && !decide (a = [45])) = true then Th.str "none" else .tup [digQ a, .tup (ss.map stepQ)]) = true
      split
      · decide +kernel
      · rw [shortT, shortL, shortL, shortL, hd, shortT, List.length_map, decide_eq_true (show ss.length ≤ 1000000 by omega), shortL_of (fun t m => by obtain ⟨y, _, rfl⟩ := List.mem_map.mp m; exact hs y)]
        rfl
  unfold foundQ
  rw [shortT, shortL, shortL, shortL, hd, shortT, List.length_map, decide_eq_true (show ls.length ≤ 1000000 by omega), shortL_of (fun t m => by
    obtain ⟨y, my, rfl⟩ := List.mem_map.mp m
    exact hr y (hl y my))]
  rfl
def bad2 : List Str → Bool
  | [a, _] => !decide (tl a = [115, 105, 122, 101])
  | _ => true
theorem spl_two {w : List Nat} (h : lastNl w = true) : 2 ≤ (spl [10] 0 [] w).length := by
  have e : w.drop (w.length - 1) = [10] := of_decide_eq_true h
  have e2 : w = w.take (w.length - 1) ++ [10] := by rw [← e, List.take_append_drop]
  have gen : ∀ (p acc : List Nat), 2 ≤ (spl [10] 0 acc (p ++ [10])).length := by
    intro p
    induction p with
    | nil => intro acc; show 2 ≤ (spl [10] 0 acc [10]).length; rw [spl_hit (by decide)]; show 2 ≤ (acc :: spl [10] 0 [] []).length; rw [spl_nil]; exact Nat.le_refl 2
    | cons c p ih =>
      intro acc
      by_cases hc : pre [10] (c :: (p ++ [10])) = true
      · rw [List.cons_append, spl_hit hc]
        have := ih []
        rw [List.length_cons]
        show 2 ≤ (spl [10] 0 [] (p ++ [10])).length + 1
        omega
      · rw [List.cons_append, spl_miss (by simpa using hc)]
        exact ih _
  rw [e2]
  exact gen _ []
section
variable {P : Program} {w : World} {K : PySem.W.Frag} {mg : Str → Option Value} {base : Heap} {k : Nat}
theorem ok_law_read (Z : Zs mg) (c_law_digits : Cal P w K mg base CX0 k "_law_digits" ["_law_word"] spDigQ) (c_law_read_row : Cal P w K mg base CX0 k "_law_read_row" ["_law_line"] spRowQ) (c_law_machine_fits : Cal P w K mg base CX0 k "_law_machine_fits" ["_law_thing"] (spTh machB)) (c_law_machine_text : Cal P w K mg base CX0 k "_law_machine_text" ["_law_machine_here"] spLMX) (d : Def K mg "_law_read" s_law_read ["_law_text"]) : Cal P w K mg base CX0 (k + 1) "_law_read" ["_law_text"] spReadQ := by
  refine d.ok sc_law_read (fun vs H Q E h => ?_) (fun f cdv A outer s H vs Q E hr h => ?_)
  · obtain ⟨_, _, _, rfl, _⟩ := h; rfl
  obtain ⟨Zn, t, v, rfl, hv, sx, q⟩ := h
  refine ⟨_, (pss_cons (ps_if (PW.pt (pw_or (pt_not (pt_val (pe_callB (id := "isinstance") call_isi (by rfl) Z.isinstance (by decide +kernel) (pa_cons (pv 0) (pa_cons (pe_bltn (v := .ty "str") (by rfl) Z.str (by decide +kernel) rfl) pa_nil))))) (pw_or1 (pt_cmpR op_ne (pe_slice sl_str (pv 0) (po_some (pe_un un_neg pe_int)) po_none) pe_str (nomark _))))) (pss_one (ps_ret pe_non)) pss_nil)
      (pss_cons (ps_set (i := 1) sc_law_read.nd rfl (Or.inl rfl) (pe_slice sl_list (pe_split (pv 0) pe_str) po_none (po_some (pe_un un_neg pe_int))))
      (pss_cons (ps_set (i := 2) sc_law_read.nd rfl (Or.inl rfl) (pe_split (pe_ix ix_list (pv 1) pe_int (fun _ _ => rfl)) pe_str))
      (pss_cons (ps_if (PW.pt (pw_or (pt_cmpR op_ne (pe_callB (id := "len") call_len_seq (by rfl) Z.len (by decide +kernel) (pa_cons (pv 2) pa_nil)) pe_int (nomark _)) (pw_or1 (pt_cmpR op_ne (pe_ix ix_list (pv 2) pe_int (fun _ _ => rfl)) pe_str (nomark _))))) (pss_one (ps_ret pe_non)) pss_nil)
      (pss_cons (ps_set (i := 3) sc_law_read.nd rfl (Or.inl rfl) (pe_tup (pa_cons (pe_cal c_law_digits hr (by rfl) (pa_cons (pe_ix ix_list (pv 2) pe_int (fun _ _ => rfl)) pa_nil)) (pa_cons (pe_callTy (T := "tuple") call_tuple_of (by rfl) Z.tuple (by decide +kernel) (pa_cons (pe_lc (own := [("_law_line", 4)]) (g := gName 4) (tt := tYes) rfl sc_law_read.nd (pi_list (pe_slice sl_list (pv 1) (po_some pe_int) po_none)) (blkOk_by (N := ["_law_text", "_law_lines", "_law_words", "_law_found", "_law_line"]) (sc := defScope s_law_read) (by decide +kernel)) (fun _ _ _ _ _ => (pg_name (i := 4) sc_law_read.nd rfl (Or.inl rfl))) (fun _ _ _ _ _ => pts_nil) (fun _ _ _ _ _ => (pe_cal c_law_read_row hr (by rfl) (pa_cons (pv 4) pa_nil)))) pa_nil)) pa_nil))))
      (pss_cons (ps_if (PW.pt (pw_or (pt_not (pt_val (pe_cal c_law_machine_fits hr (by rfl) (pa_cons (pv 3) pa_nil)))) (pw_or1 (pt_cmpR op_ne (pe_cal c_law_machine_text hr (by rfl) (pa_cons (pv 3) pa_nil)) (pv 0) (nomark _))))) (pss_one (ps_ret pe_non)) pss_nil)
      (pss_one (ps_ret (pv 3))))))))), ?_⟩
  have e10 : tl ("\n" : Str) = [10] := by decide +kernel
  have eSz : tl ("size" : Str) = [115, 105, 122, 101] := by decide +kernel
  refine rd_ifs (match t with | .str x => !lastNl (tl x) | _ => true) (fun R hR => ?_) (fun H2 s2 e => ?_) (fun H2 s2 e => ?_)
  · refine ⟨v, rfl, _, _, _, _, _, rfl, .ty _, (At.tyx (hv)), kit_ty (kitS t), _, rfl, ?_⟩
    cases t with
    | str x =>
      cases hv
      have lx := sx x rfl
      refine iteF ⟨_, rfl, _, rfl, _, rfl, x, rfl, by rw [sizeLine_eq]; omega, rfl, _, rfl, ?_⟩
      rw [eq_tl, e10, cutS_last]
      exact hR H (Same.refl H)
    | _ => exact iteT (hR H (Same.refl H))
  · refine q .non H2 s2 ?_
    rw [show readQ t = .non by
      cases t with
      | str x =>
        unfold readQ
        show (if lastNl (tl x) = true then _ else _) = _
        rw [show lastNl (tl x) = false from not_true e]
        rfl
      | _ => rfl]
    rfl
  cases t with
  | str x =>
    cases hv
    have lx := sx x rfl
    have lt := len_tl x
    have eL : lastNl (tl x) = true := not_false' e
    have es := split_spl1 x 10 "\n" (by decide +kernel) (by omega)
    obtain ⟨ll, lp⟩ := spl_le [10] (tl x) []
    have two : 2 ≤ (spl [10] 0 [] (tl x)).length := spl_two eL
    rw [← es, List.length_map] at ll two
    rw [← es] at lp
    have q' : ∀ v' H', Same H H' → At (Trk H) H' (match (((Txt.split x "\n").map tl).dropLast) with
      | h :: ls => (match spl [32] 0 [] h with
        | [a, b] => (if a = [115, 105, 122, 101] then (if (machB (foundQ b ls) && decide (machXT (foundQ b ls) = tl x)) = true then foundQ b ls else .non) else .non)
        | _ => .non)
      | [] => .non) v' → Q v' H' := by
      rw [es]
      intro v' H' s' a'
      refine q v' H' s' ?_
      unfold readQ
      show At _ _ (if lastNl (tl x) = true then _ else _) _
      rw [if_pos eL]
      exact a'
    have lw : ∀ y ∈ Txt.split x "\n", y.length ≤ 900000 := fun y m => by
      have := lp (tl y) (List.mem_map.mpr ⟨y, m, rfl⟩)
      rw [List.length_nil] at this
      rw [len_tl]; omega
    refine ⟨_, rfl, ⟨_, rfl⟩, _, _, rfl, rfl, by decide +kernel, by rw [sizeLine_eq]; omega, fun p np => ?_⟩
    have y1 := same_new np (.lst ((Txt.split x "\n").map V.str))
    refine ⟨_, rfl, _, rfl, p, _, rfl, .of upd_same, fun L nL => ?_⟩
    rw [cutV_init, ← List.map_dropLast]
    have y2 := same_new nL (.lst ((Txt.split x "\n").dropLast.map V.str))
    have e2 := upd_same (H := upd H2 p (.lst ((Txt.split x "\n").map V.str))) (a := L) (o := .lst ((Txt.split x "\n").dropLast.map V.str))
    have s12 := s2.trans (y1.trans y2)
    generalize upd (upd H2 p (.lst ((Txt.split x "\n").map V.str))) L (.lst ((Txt.split x "\n").dropLast.map V.str)) = H4 at e2 s12
    clear y1 y2
    rw [← List.map_dropLast] at q'
    have lw2 : ∀ y ∈ (Txt.split x "\n").dropLast, y.length ≤ 900000 := fun y m => lw y (List.dropLast_subset _ m)
    have ld := List.length_dropLast (xs := Txt.split x "\n")
    generalize (Txt.split x "\n").dropLast = ws at *
    match ws, ld with
    | [], ld => exact absurd ld (by show ¬ (0 = _); omega)
    | hd :: ls, ld =>
    rw [List.length_cons] at ld
    have lh := lw2 hd List.mem_cons_self
    have es2 := split_spl1 hd 32 " " (by decide +kernel) (by omega)
    obtain ⟨ll2, lp2⟩ := spl_le [32] (tl hd) []
    have lt2 := len_tl hd
    rw [← es2, List.length_map] at ll2
    rw [← es2] at lp2
    rw [List.map_cons] at q'
    have q2 : ∀ v' H', Same H H' → At (Trk H) H' (match (Txt.split hd " ").map tl with
        | [a, b] => (if a = [115, 105, 122, 101] then (if (machB (foundQ b (ls.map tl)) && decide (machXT (foundQ b (ls.map tl)) = tl x)) = true then foundQ b (ls.map tl) else .non) else .non)
        | _ => .non) v' → Q v' H' := by
      rw [es2]
      exact q'
    have lw3 : ∀ y ∈ Txt.split hd " ", y.length ≤ 900000 := fun y m => by
      have := lp2 (tl y) (List.mem_map.mpr ⟨y, m, rfl⟩)
      rw [List.length_nil] at this
      rw [len_tl]; omega
    dsimp only [gName]
    refine ⟨_, rfl, L, _, 0, .str hd, rfl, rfl, .of e2, atI_n (s := 0) rfl, ⟨_, rfl⟩, _, _, rfl, rfl, by decide +kernel, by rw [sizeLine_eq]; omega, fun p2 np2 => ?_⟩
    have y3 := same_new np2 (.lst ((Txt.split hd " ").map V.str))
    have e3 := upd_same (H := H4) (a := p2) (o := .lst ((Txt.split hd " ").map V.str))
    have e2' := y3 _ _ e2
    have s13 := s12.trans y3
    generalize upd H4 p2 (.lst ((Txt.split hd " ").map V.str)) = H5 at e3 e2' s13
    clear y3 q' lp2 es2
    generalize Txt.split hd " " = us at *
    dsimp only [gName]
    refine rd_ifs (bad2 us) (fun R hR => ?_) (fun H6 s6 c => ?_) (fun H6 s6 c => ?_)
    · refine ⟨_, rfl, p2, _, rfl, .inl (.of e3), rfl, _, rfl, ?_⟩
      rw [List.length_map]
      by_cases h2 : us.length = 2
      · rw [decide_eq_true (by rw [h2]; rfl)]
        match us, h2 with
        | [a, b], _ =>
        refine iteF ⟨_, rfl, p2, _, 0, .str a, rfl, rfl, .of e3, rfl, rfl, _, rfl, ?_⟩
        rw [eq_tl, eSz]
        exact hR H5 (Same.refl H5)
      · rw [decide_eq_false (fun e => h2 (by injection e with e; omega))]
        refine iteT ?_
        match us, h2 with
        | [], _ => exact hR H5 (Same.refl H5)
        | [a], _ => exact hR H5 (Same.refl H5)
        | a :: b :: c :: r, _ => exact hR H5 (Same.refl H5)
    · refine q2 .non H6 (s13.trans s6) ?_
      match us, c with
      | [], _ => rfl
      | [a], _ => rfl
      | a :: b :: c :: r, _ => rfl
      | [a, b], c =>
        have c' : tl a ≠ [115, 105, 122, 101] := of_decide_eq_false (not_true c)
        show At _ _ (if tl a = [115, 105, 122, 101] then _ else _) _
        rw [if_neg c']
        rfl
    match us, c with
    | [a, b], c =>
    have c' : tl a = [115, 105, 122, 101] := of_decide_eq_true (not_false' c)
    have q3 : ∀ v' H', Same H H' → At (Trk H) H' (if (machB (foundQ (tl b) (ls.map tl)) && decide (machXT (foundQ (tl b) (ls.map tl)) = tl x)) = true then foundQ (tl b) (ls.map tl) else .non) v' → Q v' H' := by
      intro v' H' s' a'
      refine q2 v' H' s' ?_
      show At _ _ (if tl a = [115, 105, 122, 101] then _ else _) _
      rw [if_pos c']
      exact a'
    have sF : shortT (foundQ (tl b) (ls.map tl)) = true := foundQ_short (by rw [List.length_map]; omega) (fun l m => by
      obtain ⟨y, my, rfl⟩ := List.mem_map.mp m
      rw [← len_tl]; exact lw2 y (List.mem_cons_of_mem _ my))
    have e6 := s6 _ _ e3
    have e6' := s6 _ _ e2'
    -- found
    refine ⟨_, rfl, p2, _, 1, .str b, rfl, rfl, .of e6, rfl, b, rfl, Nat.le_trans (lw3 b (by simp)) (by omega), fun v1 H7 s7 a1 => ?_⟩
    have e7' := s7 _ _ e6'
    refine ⟨_, rfl, _, rfl, L, _, rfl, .of e7', fun L2 nL2 => ?_⟩
    rw [show cutV ((hd :: ls).map V.str) (some 1) none = ls.map V.str from cutV_tail _ _]
    have y3 := same_new nL2 (.lst (ls.map V.str))
    have eL2 := upd_same (H := H7) (a := L2) (o := .lst (ls.map V.str))
    have s02 := s13.trans (s6.trans (s7.trans y3))
    generalize upd H7 L2 (.lst (ls.map V.str)) = H8 at y3 eL2 s02
    refine ⟨L2, rfl, ⟨_, .of eL2⟩, lc_newW (f := fun j => rowQ (tl ((ls[j]?).getD Str.empty))) walk_list (fun _ _ _ _ h => h) (fun H' s' => .of (s' _ _ eL2)) (by rw [List.length_map]; omega) (fun _ => rfl) (fun j x H2 hj ex s2 R hR => ?_) (fun D2 H9 vs4 s4 hD eD2 aD => ?_)⟩
    · obtain ⟨y, ey, rfl⟩ := strs_get ex
      refine ⟨_, rfl, y, rfl, lw2 y (List.mem_cons_of_mem _ (List.mem_of_getElem? ey)), fun v' H3 s3 a3 => hR v' H3 s3 ?_⟩
      rw [ey]
      exact a3
    refine ⟨D2, vs4, rfl, .inl ⟨.of eD2, fun p5 n5 => ?_⟩⟩
    have z5 := same_new n5 (.tup vs4)
    refine ⟨(by show 2 ≤ sizeLine; decide), fun p6 n6 => ?_⟩
    have z6 := same_new n6 (.tup [v1, .ref p5])
    have s66 := s4.trans (z5.trans z6)
    have sA := s02.trans s66
    have aF : At (Trk H) (upd (upd H9 p5 (.tup vs4)) p6 (.tup [v1, .ref p5])) (foundQ (tl b) (ls.map tl)) (.ref p6) := by
      refine ⟨p6, _, rfl, fun t => Trk.not n6 (Trk.same (s02.trans (s4.trans z5)) t), upd_same, .cons ((a1 _).same (y3.trans s66)) (.cons ⟨p5, vs4, rfl, fun t => Trk.not n5 (Trk.same (s02.trans s4) t), z6 _ _ upd_same, ?_⟩ .nil)⟩
      rw [List.length_map, range_map_get (fun y => rowQ (tl y))] at aD
      have := ((aD.less fun a h => .inr (Trk.same s02 h)).same z5).same z6
      rw [List.map_map]
      exact this
    generalize upd (upd H9 p5 (.tup vs4)) p6 (.tup [v1, .ref p5]) = HA at sA aF
    clear s66 z5 z6 aD
    generalize foundQ (tl b) (ls.map tl) = M at aF sF q3
    dsimp only [gName]
    refine rd_ifs (!(machB M && decide (machXT M = tl x))) (fun R hR => ?_) (fun HB sB c2 => ?_) (fun HB sB c2 => ?_)
    · refine ⟨_, rfl, Trk H, .ref p6, M, rfl, aF, sF, fun HB sB => ⟨_, rfl, ?_⟩⟩
      cases mb : machB M with
      | false =>
        rw [mb] at hR
        exact iteT (hR HB sB)
      | true =>
        rw [mb] at hR
        obtain ⟨z, rows, rfl, ok⟩ := machB_ok mb
        refine iteF ⟨_, rfl, Trk H, z, rows, .ref p6, rfl, aF.same sB, ok, fun y HC sC ey => ⟨_, rfl, rfl, _, rfl, ?_⟩⟩
        rw [eq_tl, ey]
        exact hR HC (sB.trans sC)
    · refine q3 .non HB (sA.trans sB) ?_
      rw [not_true c2]
      rfl
    · refine ⟨_, rfl, q3 _ HB (sA.trans sB) ?_⟩
      rw [not_false' c2, if_pos rfl]
      exact aF.same sB
  | _ => cases e
end
end KL
end
section
set_option maxHeartbeats 1000000
namespace KL
open PySem PySem.Spec PyProof.Rows L2 TL
abbrev sc_law_bent_rowN : List Str := ["_law_well_here", "_law_row", "_law_at", "_law_other", "_law_kind"]
abbrev s_law_bent_row : Stmt := topS 47
theorem sc_law_bent_row : FnScope ["_law_well_here", "_law_row", "_law_at", "_law_other", "_law_kind"] ["_law_well_here", "_law_row"] (defScope s_law_bent_row) := ⟨rfl, rfl, rfl, by decide +kernel, rfl, by decide +kernel, by decide +kernel⟩
abbrev sc_law_bentN : List Str := ["_law_well_here", "_law_text", "_law_kind", "_law_at", "_law_sign"]
abbrev s_law_bent : Stmt := topS 48
theorem sc_law_bent : FnScope ["_law_well_here", "_law_text", "_law_kind", "_law_at", "_law_sign"] ["_law_well_here", "_law_text"] (defScope s_law_bent) := ⟨rfl, rfl, rfl, by decide +kernel, rfl, by decide +kernel, by decide +kernel⟩
def sums (ws : List Str) : Nat := (ws.map (·.length)).sum
theorem sums_cons (w : Str) (ws : List Str) : sums (w :: ws) = w.length + sums ws := by unfold sums; rw [List.map_cons, List.sum_cons]
theorem sums_app (ws us : List Str) : sums (ws ++ us) = sums ws + sums us := by unfold sums; rw [List.map_append, List.sum_append]
theorem sums_take : ∀ (n : Nat) (ws : List Str), sums (ws.take n) ≤ sums ws
  | 0, ws => by rw [List.take_zero]; exact Nat.zero_le _
  | n + 1, [] => Nat.le_refl _
  | n + 1, w :: ws => by rw [List.take_succ_cons, sums_cons, sums_cons]; have := sums_take n ws; omega
theorem sums_drop : ∀ (n : Nat) (ws : List Str), sums (ws.drop n) ≤ sums ws
  | 0, ws => Nat.le_refl _
  | n + 1, [] => Nat.le_refl _
  | n + 1, w :: ws => by rw [List.drop_succ_cons, sums_cons]; have := sums_drop n ws; omega
theorem sums_mem {ws : List Str} {w : Str} (h : w ∈ ws) : w.length ≤ sums ws := by
  induction ws with
  | nil => cases h
  | cons a ws ih =>
    rw [sums_cons]
    rcases List.mem_cons.mp h with rfl | h
    · omega
    · have := ih h; omega
theorem sums_set : ∀ (ws : List Str) (j : Nat) (y : Str), sums (ws.set j y) ≤ sums ws + y.length
  | [], j, y => Nat.zero_le _
  | w :: ws, 0, y => by rw [List.set_cons_zero, sums_cons, sums_cons]; omega
  | w :: ws, j + 1, y => by rw [List.set_cons_succ, sums_cons, sums_cons]; have := sums_set ws j y; omega
theorem cut_strs (ws : List Str) (lo hi : Option Int) : ∃ us : List Str, cutV (ws.map V.str) lo hi = us.map V.str ∧ us.length ≤ ws.length ∧ sums us ≤ sums ws := by
  unfold cutV
  rw [List.length_map, ← List.map_drop, ← List.map_take]
  exact ⟨_, rfl, by rw [List.length_take, List.length_drop]; omega, Nat.le_trans (sums_take _ _) (sums_drop _ _)⟩
theorem map_set' (ws : List Str) (j : Nat) (y : Str) : (ws.map V.str).set j (.str y) = (ws.set j y).map V.str := by rw [List.map_set]
def spBentRow : Sp := fun vs H Q _ => ∃ (W c p : Addr) (ws : List Str), vs = [.ref W, .ref p] ∧ WellAt W c H ∧ H p = some (.lst (ws.map V.str)) ∧ p ≠ W ∧ 0 < ws.length ∧ ws.length ≤ 1000000 ∧
  ∀ D us H', SB (At1 W) H H' → WellAt W c H' → H' D = some (.lst (us.map V.str)) → us.length ≤ 2 * ws.length → sums us ≤ 3 * sums ws → Q (.ref D) H'
def spBent : Sp := fun vs H Q _ => ∃ (W c : Addr) (x : Str), vs = [.ref W, .str x] ∧ WellAt W c H ∧ x.length ≤ 100000 ∧ ∀ y H', SB (At1 W) H H' → WellAt W c H' → y.length ≤ 5 * x.length + 10 → Q (.str y) H'
section
variable {P : Program} {w : World} {K : PySem.W.Frag} {mg : Str → Option Value} {base : Heap} {k : Nat}
theorem ok_law_bent_row (Z : Zs mg) (c_law_draw : Cal P w K mg base CX0 k "_law_draw" ["_law_well_here", "_law_many"] spDraw) (d : Def K mg "_law_bent_row" s_law_bent_row ["_law_well_here", "_law_row"]) : Cal P w K mg base CX0 (k + 1) "_law_bent_row" ["_law_well_here", "_law_row"] spBentRow := by
  refine d.ok sc_law_bent_row (fun vs H Q E h => ?_) (fun f cdv A outer s H vs Q E hr h => ?_)
  · obtain ⟨_, _, _, _, rfl, _⟩ := h; rfl
  obtain ⟨W, c, p, ws, rfl, hw, ep, npW, l1, l2, q⟩ := h
  refine ⟨_, (pss_cons (ps_set (i := 2) sc_law_bent_row.nd rfl (Or.inl rfl) (pe_cal c_law_draw hr (by rfl) (pa_cons (pv 0) (pa_cons (pe_callB (id := "len") call_len_seq (by rfl) Z.len (by decide +kernel) (pa_cons (pv 1) pa_nil)) pa_nil))))
      (pss_cons (ps_set (i := 3) sc_law_bent_row.nd rfl (Or.inl rfl) (pe_cal c_law_draw hr (by rfl) (pa_cons (pv 0) (pa_cons (pe_callB (id := "len") call_len_seq (by rfl) Z.len (by decide +kernel) (pa_cons (pv 1) pa_nil)) pa_nil))))
      (pss_cons (ps_set (i := 4) sc_law_bent_row.nd rfl (Or.inl rfl) (pe_cal c_law_draw hr (by rfl) (pa_cons (pv 0) (pa_cons pe_int pa_nil))))
      (pss_cons (ps_if (pt_cmpR op_eq (pv 4) pe_int (nomark _)) (pss_one (ps_ret (pe_op op_cat (pe_slice sl_list (pv 1) po_none (po_some (pv 2))) (pe_slice sl_list (pv 1) (po_some (pe_op op_add (pv 2) pe_int)) po_none)))) pss_nil)
      (pss_cons (ps_if (pt_cmpR op_eq (pv 4) pe_int (nomark _)) (pss_one (ps_ret (pe_op op_cat (pe_slice sl_list (pv 1) po_none (po_some (pe_op op_add (pv 2) pe_int))) (pe_slice sl_list (pv 1) (po_some (pv 2)) po_none)))) pss_nil)
      (pss_cons (ps_set (i := 1) sc_law_bent_row.nd rfl (Or.inl rfl) (pe_callTy (T := "list") call_list_of (by rfl) Z.list (by decide +kernel) (pa_cons (pv 1) pa_nil)))
      (pss_cons (ps_asg (pe_tup (pa_cons (pe_ix ix_list (pv 1) (pv 3) (fun _ _ => rfl)) (pa_cons (pe_ix ix_list (pv 1) (pv 2) (fun _ _ => rfl)) pa_nil))) (pg_tup (by rfl) (pgs_cons (pg_sub (pv 1) (pv 2) set_list) (pgs_cons (pg_sub (pv 1) (pv 3) set_list) pgs_nil))))
      (pss_one (ps_ret (pv 1)))))))))), ?_⟩
  have ll : (ws.map V.str).length = ws.length := List.length_map ..
  refine ⟨_, rfl, _, rfl, p, _, rfl, .inl (.of ep), W, c, _, rfl, hw, by rw [ll]; omega, by rw [ll]; omega, fun r H1 r0 r1 s1 w1 => ?_⟩
  rw [ll] at r1
  have ep1 := s1 _ _ npW ep
  refine ⟨_, rfl, _, rfl, p, _, rfl, .inl (.of ep1), W, c, _, rfl, w1, by rw [ll]; omega, by rw [ll]; omega, fun r2 H2 r20 r21 s2 w2 => ?_⟩
  rw [ll] at r21
  have ep2 := s2 _ _ npW ep1
  refine ⟨_, rfl, W, c, 3, rfl, w2, by decide, by decide, fun r3 H3 r30 r31 s3 w3 => ?_⟩
  have ep3 := s3 _ _ npW ep2
  have sA := (s1.trans s2).trans s3
  clear s1 s2 s3 w1 w2 ep1 ep2
  have lsz : sizeLine = 16777216 := sizeLine_eq
  dsimp only [gName]
  refine ⟨_, rfl, rfl, _, rfl, iteB (fun _ => ?_) (fun _ => ⟨_, rfl, rfl, _, rfl, iteB (fun _ => ?_) (fun _ => ?_)⟩)⟩
  · obtain ⟨u1, e1, n1, m1⟩ := cut_strs ws none (some r)
    obtain ⟨u2, e2, n2, m2⟩ := cut_strs ws (some (r + 1)) none
    refine ⟨_, rfl, _, rfl, _, rfl, p, _, rfl, .of ep3, fun L1 nL1 => ?_⟩
    rw [e1]
    have y1 := same_new nL1 (.lst (u1.map V.str))
    refine ⟨_, rfl, _, rfl, _, _, rfl, rfl, _, rfl, p, _, rfl, .of (y1 _ _ ep3), fun L2 nL2 => ?_⟩
    rw [e2]
    have y2 := same_new nL2 (.lst (u2.map V.str))
    refine ⟨L1, L2, _, _, rfl, rfl, y2 _ _ upd_same, upd_same, by rw [List.length_map, List.length_map]; omega, fun L3 nL3 => ?_⟩
    have y3 := same_new nL3 (.lst (u1.map V.str ++ u2.map V.str))
    have y := y1.trans (y2.trans y3)
    exact q L3 (u1 ++ u2) _ (sA.trans (.of y)) (w3.same y) (by rw [upd_same, List.map_append]) (by rw [List.length_append]; omega) (by rw [sums_app]; omega)
  · obtain ⟨u1, e1, n1, m1⟩ := cut_strs ws none (some (r + 1))
    obtain ⟨u2, e2, n2, m2⟩ := cut_strs ws (some r) none
    refine ⟨_, rfl, _, rfl, _, _, rfl, rfl, _, rfl, p, _, rfl, .of ep3, fun L1 nL1 => ?_⟩
    rw [e1]
    have y1 := same_new nL1 (.lst (u1.map V.str))
    refine ⟨_, rfl, _, rfl, _, rfl, p, _, rfl, .of (y1 _ _ ep3), fun L2 nL2 => ?_⟩
    rw [e2]
    have y2 := same_new nL2 (.lst (u2.map V.str))
    refine ⟨L1, L2, _, _, rfl, rfl, y2 _ _ upd_same, upd_same, by rw [List.length_map, List.length_map]; omega, fun L3 nL3 => ?_⟩
    have y3 := same_new nL3 (.lst (u1.map V.str ++ u2.map V.str))
    have y := y1.trans (y2.trans y3)
    exact q L3 (u1 ++ u2) _ (sA.trans (.of y)) (w3.same y) (by rw [upd_same, List.map_append]) (by rw [List.length_append]; omega) (by rw [sums_app]; omega)
  · refine ⟨_, rfl, p, _, rfl, .inl (.of ep3), fun L nL => ?_⟩
    have y1 := same_new nL (.lst (ws.map V.str))
    have eL := upd_same (H := H3) (a := L) (o := .lst (ws.map V.str))
    obtain ⟨u1, eu1, w1', e1, m1⟩ := pick (xs := ws.map V.str) (fun u => ∃ x, u = .str x ∧ x ∈ ws) r20 (by rw [ll]; exact r21) (fun u m => by obtain ⟨x, mx, rfl⟩ := List.mem_map.mp m; exact ⟨x, rfl, mx⟩)
    obtain ⟨u2, eu2, w2', e2, m2⟩ := pick (xs := ws.map V.str) (fun u => ∃ x, u = .str x ∧ x ∈ ws) r0 (by rw [ll]; exact r1) (fun u m => by obtain ⟨x, mx, rfl⟩ := List.mem_map.mp m; exact ⟨x, rfl, mx⟩)
    subst e1 e2
    have k1 := sums_mem m1
    have k2 := sums_mem m2
    dsimp only [gName]
    refine ⟨_, rfl, _, rfl, L, _, r2, _, rfl, rfl, .of eL, eu1, _, rfl, _, rfl, L, _, r, _, rfl, rfl, .of eL, eu2, (by show 2 ≤ sizeLine; decide), fun T nT => ?_⟩
    have y2 := same_new nT (.tup [.str w1', .str w2'])
    have eL2 := y2 _ _ eL
    have i1 : ixN (ws.map V.str).length r = some r.toNat := by
      have := ixT (n := (ws.map V.str).length) (j := r.toNat) (by rw [ll]; omega)
      rwa [show ((r.toNat : Nat) : Int) = r by omega] at this
    refine ⟨T, _, rfl, .of upd_same, rfl, _, _, rfl, ?_⟩
    refine ⟨_, rfl, _, rfl, L, _, r, _, rfl, rfl, eL2, i1, ?_⟩
    rw [map_set']
    have i2 : ixN ((ws.set r.toNat w1').map V.str).length r2 = some r2.toNat := by
      have := ixT (n := ((ws.set r.toNat w1').map V.str).length) (j := r2.toNat) (by rw [List.length_map, List.length_set]; omega)
      rwa [show ((r2.toNat : Nat) : Int) = r2 by omega] at this
    refine ⟨_, _, rfl, _, rfl, _, rfl, L, _, r2, _, rfl, rfl, upd_same, i2, rfl, ?_⟩
    rw [map_set']
    have nLW : L ≠ W := ne_new w3.trk nL
    refine ⟨_, rfl, q L ((ws.set r.toNat w1').set r2.toNat w2') _ (sA.trans ?_) ?_ upd_same (by rw [List.length_set, List.length_set]; omega) ?_⟩
    · exact .of (Same.upd_new (Same.upd_new (y1.trans y2) nL _) nL _)
    · exact w3.same (Same.upd_new (Same.upd_new (y1.trans y2) nL _) nL _)
    · have a1 := sums_set ws r.toNat w1'
      have a2 := sums_set (ws.set r.toNat w1') r2.toNat w2'
      omega
theorem spl_sum (S : List Nat) : ∀ (w acc : List Nat), ((spl S 0 acc w).map List.length).sum ≤ acc.length + w.length
  | [], acc => by rw [spl_nil]; simp
  | c :: r, acc => by
    by_cases e : pre S (c :: r) = true
    · rw [spl_hit e, spl_pass]
      have h1 := spl_sum S (r.drop (S.length - 1)) []
      rw [List.length_drop, List.length_nil] at h1
      rw [List.map_cons, List.sum_cons, List.length_cons]
      omega
    · rw [spl_miss (by simpa using e)]
      have h1 := spl_sum S r (acc ++ [c])
      rw [List.length_append, List.length_singleton] at h1
      rw [List.length_cons]
      omega
termination_by w => w.length
decreasing_by all_goals simp only [List.length_drop, List.length_cons]; omega
theorem joinL_sum (S : List Nat) : ∀ ps : List (List Nat), (joinL S ps).length ≤ (ps.map List.length).sum + ps.length * S.length
  | [] => Nat.zero_le _
  | [p] => by show p.length ≤ (p.length + 0) + 1 * S.length; omega
  | p :: q :: r => by
    have := joinL_sum S (q :: r)
    show (p ++ (S ++ joinL S (q :: r))).length ≤ _
    rw [List.length_append, List.length_append, List.map_cons, List.sum_cons, List.length_cons (as := q :: r), Nat.add_mul]
    omega
theorem sums_tl (ws : List Str) : ((ws.map tl).map List.length).sum = sums ws := by
  unfold sums
  rw [List.map_map]
  congr 1
theorem split_sums (x : Str) (c : Nat) (y : Str) (hy : tl y = [c]) (hc : c < 256) : sums (Txt.split x y) ≤ x.length ∧ (Txt.split x y).length ≤ x.length + 1 ∧ 0 < (Txt.split x y).length := by
  have es := split_spl1 x c y hy hc
  have h1 := spl_sum [c] (tl x) []
  have h2 := (spl_le [c] (tl x) []).1
  have h3 := spl_ne [c] (tl x) []
  rw [← es, sums_tl, List.length_nil, ← len_tl] at h1
  rw [← es, List.length_map, ← len_tl] at h2
  rw [← es] at h3
  refine ⟨by omega, h2, ?_⟩
  cases e : Txt.split x y with
  | nil => rw [e] at h3; exact absurd rfl h3
  | cons a b => exact Nat.zero_lt_succ _
theorem join_len (y : Str) (ws : List Str) : (Txt.join y ws).length ≤ sums ws + ws.length * y.length := by
  have := joinL_sum (tl y) (ws.map tl)
  rw [sums_tl, List.length_map, ← len_tl] at this
  rw [len_tl, tl_join']
  exact this
theorem app_len (x y : Str) : (x ++ y).length = x.length + y.length := by rw [len_tl, tl_append, List.length_append, ← len_tl, ← len_tl]
theorem ok_law_bent (Z : Zs mg) (c_law_draw : Cal P w K mg base CX0 k "_law_draw" ["_law_well_here", "_law_many"] spDraw) (c_law_bent_row : Cal P w K mg base CX0 k "_law_bent_row" ["_law_well_here", "_law_row"] spBentRow) (d : Def K mg "_law_bent" s_law_bent ["_law_well_here", "_law_text"]) : Cal P w K mg base CX0 (k + 1) "_law_bent" ["_law_well_here", "_law_text"] spBent := by
  refine d.ok sc_law_bent (fun vs H Q E h => ?_) (fun f cdv A outer s H vs Q E hr h => ?_)
  · obtain ⟨_, _, _, rfl, _⟩ := h; rfl
  obtain ⟨W, c, x, rfl, hw, lx, q⟩ := h
  refine ⟨_, (pss_cons (ps_set (i := 2) sc_law_bent.nd rfl (Or.inl rfl) (pe_cal c_law_draw hr (by rfl) (pa_cons (pv 0) (pa_cons pe_int pa_nil))))
      (pss_cons (ps_set (i := 3) sc_law_bent.nd rfl (Or.inl rfl) (pe_cal c_law_draw hr (by rfl) (pa_cons (pv 0) (pa_cons (pe_op op_add (pe_callB (id := "len") call_len_str (by rfl) Z.len (by decide +kernel) (pa_cons (pv 1) pa_nil)) pe_int) pa_nil))))
      (pss_cons (ps_set (i := 4) sc_law_bent.nd rfl (Or.inl rfl) (pe_item_str pe_str (pe_cal c_law_draw hr (by rfl) (pa_cons (pv 0) (pa_cons pe_int pa_nil))) (fun _ _ => rfl)))
      (pss_cons (ps_if (pt_cmpR op_eq (pv 2) pe_int (nomark _)) (pss_one (ps_ret (pe_op op_add_str (pe_slice sl_str (pv 1) po_none (po_some (pv 3))) (pe_slice sl_str (pv 1) (po_some (pe_op op_add (pv 3) pe_int)) po_none)))) pss_nil)
      (pss_cons (ps_if (pt_cmpR op_le (pv 2) pe_int (nomark _)) (pss_one (ps_ret (pe_op op_add_str (pe_op op_add_str (pe_slice sl_str (pv 1) po_none (po_some (pv 3))) (pv 4)) (pe_slice sl_str (pv 1) (po_some (pe_op op_add (pv 3) pe_int)) po_none)))) pss_nil)
      (pss_cons (ps_if (pt_cmpR op_eq (pv 2) pe_int (nomark _)) (pss_one (ps_ret (pe_op op_add_str (pe_op op_add_str (pe_slice sl_str (pv 1) po_none (po_some (pv 3))) (pv 4)) (pe_slice sl_str (pv 1) (po_some (pv 3)) po_none)))) pss_nil)
      (pss_cons (ps_if (pt_cmpR op_eq (pv 2) pe_int (nomark _)) (pss_one (ps_ret (pe_op op_add_str (pe_op op_add_str (pe_op op_add_str (pe_slice sl_str (pv 1) po_none (po_some (pv 3))) (pe_slice sl_str (pv 1) (po_some (pe_op op_add (pv 3) pe_int)) (po_some (pe_op op_add (pv 3) pe_int)))) (pe_slice sl_str (pv 1) (po_some (pv 3)) (po_some (pe_op op_add (pv 3) pe_int)))) (pe_slice sl_str (pv 1) (po_some (pe_op op_add (pv 3) pe_int)) po_none)))) pss_nil)
      (pss_cons (ps_if (PW.pt (pw_and (pt_cmpR op_eq (pv 2) pe_int (nomark _)) (pw_and1 (pt_cmpR op_gt (pe_callB (id := "len") call_len_str (by rfl) Z.len (by decide +kernel) (pa_cons (pv 1) pa_nil)) pe_int (nomark _))))) (pss_one (ps_ret (pe_join pe_str (pe_cal c_law_bent_row hr (by rfl) (pa_cons (pv 0) (pa_cons (pe_split (pv 1) pe_str) pa_nil)))))) pss_nil)
      (pss_cons (ps_if (PW.pt (pw_and (pt_cmpR op_eq (pv 2) pe_int (nomark _)) (pw_and1 (pt_cmpR op_gt (pe_callB (id := "len") call_len_str (by rfl) Z.len (by decide +kernel) (pa_cons (pv 1) pa_nil)) pe_int (nomark _))))) (pss_one (ps_ret (pe_join pe_str (pe_cal c_law_bent_row hr (by rfl) (pa_cons (pv 0) (pa_cons (pe_split (pv 1) pe_str) pa_nil)))))) pss_nil)
      (pss_cons (ps_if (pt_cmpR op_eq (pv 2) pe_int (nomark _)) (pss_one (ps_ret (pe_op op_add_str (pe_op op_add_str (pe_slice sl_str (pv 1) po_none (po_some (pv 3))) pe_str) (pe_slice sl_str (pv 1) (po_some (pv 3)) po_none)))) pss_nil)
      (pss_one (ps_ret (pe_op op_add_str (pv 1) (pe_ix ix_list (pe_lst (pa_cons pe_str (pa_cons pe_str (pa_cons pe_str (pa_cons pe_str pa_nil))))) (pe_cal c_law_draw hr (by rfl) (pa_cons (pv 0) (pa_cons pe_int pa_nil))) (fun _ _ => rfl))))))))))))))), ?_⟩
  have lsz : sizeLine = 16777216 := sizeLine_eq
  have lx' : x.length ≤ sizeLine := by omega
  have lc : ∀ lo hi, (cutS x lo hi).length ≤ x.length := cutS_length x
  have l1 : ∀ a : Nat, (⟨#[a]⟩ : Str).length = 1 := fun a => rfl
  have l0 : ("0" : Str).length = 1 := by decide +kernel
  refine ⟨_, rfl, W, c, 9, rfl, hw, by decide, by decide, fun r H1 r0 r1 s1 w1 => ?_⟩
  refine ⟨_, rfl, _, rfl, x, rfl, lx', _, _, rfl, rfl, W, c, _, rfl, w1, by omega, by omega, fun r2 H2 r20 r21 s2 w2 => ?_⟩
  refine ⟨_, rfl, W, c, 19, rfl, w2, by decide, by decide, fun r3 H3 r30 r31 s3 w3 => ?_⟩
  have s13 := (s1.trans s2).trans s3
  have lA : ("0123456789:- \nsizeA" : Str).length = 19 := by decide +kernel
  obtain ⟨cs, ecs⟩ : ∃ cs, ("0123456789:- \nsizeA" : Str).cps[r3.toNat]? = some cs := by
    have : r3.toNat < ("0123456789:- \nsizeA" : Str).cps.size := by
      have : ("0123456789:- \nsizeA" : Str).cps.size = 19 := by decide +kernel
      omega
    exact ⟨_, Array.getElem?_eq_getElem this⟩
  refine ⟨_, _, cs, rfl, rfl, r30, by omega, by rw [lA]; omega, ecs, ?_⟩
  dsimp only [gName]
  have c1 := lc none (some r2)
  have c2 := lc (some (r2 + 1)) none
  have c3 := lc (some r2) none
  have c4 := lc (some (r2 + 1)) (some (r2 + 2))
  have c5 := lc (some r2) (some (r2 + 1))
  have c6 := lc (some (r2 + 2)) none
  have fin : ∀ y : Str, y.length ≤ 5 * x.length + 10 → Q (.str y) H3 := fun y h => q y H3 s13 w3 h
  refine ⟨_, rfl, rfl, _, rfl, iteB (fun _ => ?_) (fun _ => ⟨_, rfl, _, _, rfl, rfl, _, rfl, iteB (fun _ => ?_) (fun _ => ⟨_, rfl, rfl, _, rfl, iteB (fun _ => ?_) (fun _ => ⟨_, rfl, rfl, _, rfl, iteB (fun _ => ?_) (fun _ => ?_)⟩)⟩)⟩)⟩
  · refine ⟨_, rfl, _, rfl, _, rfl, x, rfl, lx', _, rfl, _, rfl, _, _, rfl, rfl, _, rfl, x, rfl, lx', _, _, rfl, rfl, ?_, ?_⟩
    all_goals (first | refine fin _ ?_ | skip)
    all_goals try simp only [app_len, l1]
    all_goals omega
  · refine ⟨_, rfl, _, rfl, _, rfl, x, rfl, lx', _, rfl, _, _, rfl, rfl, ?_, _, rfl, _, rfl, _, _, rfl, rfl, _, rfl, x, rfl, lx', _, _, rfl, rfl, ?_, ?_⟩
    all_goals (first | refine fin _ ?_ | skip)
    all_goals try simp only [app_len, l1]
    all_goals omega
  · refine ⟨_, rfl, _, rfl, _, rfl, x, rfl, lx', _, rfl, _, _, rfl, rfl, ?_, _, rfl, _, rfl, _, rfl, x, rfl, lx', _, _, rfl, rfl, ?_, ?_⟩
    all_goals (first | refine fin _ ?_ | skip)
    all_goals try simp only [app_len, l1]
    all_goals omega
  · refine ⟨_, rfl, _, rfl, _, rfl, x, rfl, lx', _, rfl, _, rfl, _, _, rfl, rfl, _, rfl, _, rfl, _, _, rfl, rfl, _, rfl, x, rfl, lx', _, _, rfl, rfl, ?_, _, rfl, _, rfl, _, rfl, _, rfl, _, _, rfl, rfl, _, rfl, x, rfl, lx', _, _, rfl, rfl, ?_, _, rfl, _, rfl, _, _, rfl, rfl, _, rfl, x, rfl, lx', _, _, rfl, rfl, ?_, ?_⟩
    all_goals (first | refine fin _ ?_ | skip)
    all_goals try simp only [app_len, l1]
    all_goals omega
  dsimp only [tNext]
  refine rd_ifx (fun H' => Same H3 H') (fun N hN => ?_) (fun H4 s4 => ?_)
  · refine ⟨_, rfl, rfl, _, rfl, iteB (fun _ => ?_) (fun _ => iteF (hN _ (Same.refl _)))⟩
    refine ⟨_, rfl, x, rfl, lx', _, _, rfl, rfl, _, rfl, iteB (fun _ => ?_) (fun _ => hN _ (Same.refl _))⟩
    obtain ⟨g1, g2, g3⟩ := split_sums x 10 "\n" (by decide +kernel) (by omega)
    refine ⟨⟨_, rfl⟩, _, rfl, _, rfl, ⟨_, rfl⟩, _, _, rfl, rfl, by decide +kernel, by omega, fun p np => ?_⟩
    have yp := same_new np (.lst ((Txt.split x "\n").map V.str))
    refine ⟨W, c, p, Txt.split x "\n", rfl, w3.same yp, upd_same, ne_new w3.trk np, g3, by omega, fun D us H' sb w' eD n1 n2 => ?_⟩
    have lsep : ("\n" : Str).length = 1 := by decide +kernel
    have jl := join_len "\n" us
    rw [lsep] at jl
    refine ⟨_, D, us, rfl, rfl, .inl (.of eD), ?_, q _ H' (s13.trans ((SB.of yp).trans sb)) w' (by omega)⟩
    rw [lsep]
    show sums us + us.length * 1 ≤ 16777216
    omega
  have w4 := w3.same s4
  have s14 := s13.trans (.of s4)
  refine rd_ifx (fun H' => Same H4 H') (fun N hN => ?_) (fun H5 s5 => ?_)
  · refine ⟨_, rfl, rfl, _, rfl, iteB (fun _ => ?_) (fun _ => iteF (hN _ (Same.refl _)))⟩
    refine ⟨_, rfl, x, rfl, lx', _, _, rfl, rfl, _, rfl, iteB (fun _ => ?_) (fun _ => hN _ (Same.refl _))⟩
    obtain ⟨g1, g2, g3⟩ := split_sums x 32 " " (by decide +kernel) (by omega)
    refine ⟨⟨_, rfl⟩, _, rfl, _, rfl, ⟨_, rfl⟩, _, _, rfl, rfl, by decide +kernel, by omega, fun p np => ?_⟩
    have yp := same_new np (.lst ((Txt.split x " ").map V.str))
    refine ⟨W, c, p, Txt.split x " ", rfl, w4.same yp, upd_same, ne_new w4.trk np, g3, by omega, fun D us H' sb w' eD n1 n2 => ?_⟩
    have lsep : (" " : Str).length = 1 := by decide +kernel
    have jl := join_len " " us
    rw [lsep] at jl
    refine ⟨_, D, us, rfl, rfl, .inl (.of eD), ?_, q _ H' (s14.trans ((SB.of yp).trans sb)) w' (by omega)⟩
    rw [lsep]
    show sums us + us.length * 1 ≤ 16777216
    omega
  have w5 := (w3.same s4).same s5
  have s15 := s13.trans (.of (s4.trans s5))
  refine ⟨_, rfl, rfl, _, rfl, iteB (fun _ => ?_) (fun _ => ?_)⟩
  · refine ⟨_, rfl, _, rfl, _, rfl, x, rfl, lx', _, _, rfl, rfl, ?_, _, rfl, _, rfl, _, rfl, x, rfl, lx', _, _, rfl, rfl, ?_, q _ H5 s15 w5 ?_⟩
    all_goals try simp only [app_len, l0]
    all_goals omega
  · refine ⟨_, rfl, (by show 4 ≤ sizeLine; decide), fun L nL => ?_⟩
    have yL := same_new nL (.lst [.str "\n", .str " ", .str "-\n", .str "x"])
    refine ⟨_, rfl, W, c, 4, rfl, w5.same yL, by decide, by decide, fun r6 H6 a6 b6 s6 w6 => ?_⟩
    obtain ⟨u, eu, y, rfl, ly⟩ := pick (xs := [V.str "\n", .str " ", .str "-\n", .str "x"]) (fun u => ∃ y, u = V.str y ∧ y.length ≤ 2) a6 b6
      (List.forall_mem_cons.mpr ⟨⟨_, rfl, by decide +kernel⟩, List.forall_mem_cons.mpr ⟨⟨_, rfl, by decide +kernel⟩, List.forall_mem_cons.mpr ⟨⟨_, rfl, by decide +kernel⟩, List.forall_mem_cons.mpr ⟨⟨_, rfl, by decide +kernel⟩, fun _ h => nomatch h⟩⟩⟩⟩)
    refine ⟨L, _, r6, _, rfl, rfl, .of (s6 L _ (ne_new w5.trk nL) upd_same), eu, _, _, rfl, rfl, by omega, q _ H6 (s15.trans ((SB.of yL).trans s6)) w6 ?_⟩
    rw [app_len]
    omega
end
end KL
end
section
set_option maxHeartbeats 1000000
namespace KL
open PySem PySem.Spec PyProof.Rows L2 TL
abbrev sc_law_rightN : List Str := ["_law_thing", "_law_told", "_law_due"]
abbrev s_law_right : Stmt := topS 49
theorem sc_law_right : FnScope ["_law_thing", "_law_told", "_law_due"] ["_law_thing"] (defScope s_law_right) := ⟨rfl, rfl, rfl, by decide +kernel, rfl, by decide +kernel, by decide +kernel⟩
abbrev sc_lawN : List Str := ["_law_script", "_law_well_here", "_law_text", "_law_turn", "_law_bent_here", "_law_k", "_law_signs"]
abbrev s_law : Stmt := topS 50
theorem sc_law : FnScope ["_law_script", "_law_well_here", "_law_text", "_law_turn", "_law_bent_here", "_law_k", "_law_signs"] ["_law_script"] (defScope s_law) := ⟨rfl, rfl, rfl, by decide +kernel, rfl, by decide +kernel, by decide +kernel⟩
def spRight : Sp := fun vs H Q _ => ∃ (Z : Zone) (t : Th) (v : V), vs = [v] ∧ At Z H t v ∧ (∀ x, t = .str x → x.length ≤ 900000) ∧ ∀ H', Same H H' → Q (.bl true) H'
section
variable {P : Program} {w : World} {K : PySem.W.Frag} {mg : Str → Option Value} {base : Heap} {k : Nat}
theorem ok_law_right {CM : Addr} (Z : Zs mg) (rB : ∃ o, base.get? sysModules = some o) (c_read_machine : Cal P w K mg base CX0 k "read_machine" ["text"] spReadM) (c_law_read : Cal P w K mg base CX0 k "_law_read" ["_law_text"] spReadQ) (c_machine_text : Cal P w K mg base (L2.CX P w) k "machine_text" ["machine"] (spMachX CM)) (d : Def K mg "_law_right" s_law_right ["_law_thing"]) : CalG P w K mg base (k + 1) "_law_right" ["_law_thing"] spRight := by
  refine d.okG sc_law_right (fun vs H Q E h => ?_) (fun f cdv A outer s H vs Q E rG hr h => ?_)
  · obtain ⟨_, _, _, rfl, _⟩ := h; rfl
  have rU := hr.units
  obtain ⟨Zn, t, v, rfl, hv, sx, q⟩ := h
  refine ⟨_, (pss_cons (ps_set (i := 1) sc_law_right.nd rfl (Or.inl rfl) (pe_cal c_read_machine hr (by rfl) (pa_cons (pv 0) pa_nil)))
      (pss_cons (ps_set (i := 2) sc_law_right.nd rfl (Or.inl rfl) (pe_cal c_law_read hr (by rfl) (pa_cons (pv 0) pa_nil)))
      (pss_cons (ps_if (pt_cmpR op_isN (pv 2) pe_non (nomark _)) (pss_one (ps_ret (pe_cmpR op_isN (pv 1) pe_non (nomark _)))) pss_nil)
      (pss_one (ps_ret (pe_and (pe_cmpR op_eq (pe_callB (id := "repr") (call_reprT rG rU rB) (by rfl) Z.repr (by decide +kernel) (pa_cons (pv 1) pa_nil)) (pe_callB (id := "repr") (call_reprT rG rU rB) (by rfl) Z.repr (by decide +kernel) (pa_cons (pv 2) pa_nil)) (nomark _)) (pe_one (pe_cmpR op_eq (pe_calL c_machine_text hr (by rfl) (pa_cons (pv 1) pa_nil)) (pv 0) (nomark _))))))))), ?_⟩
  refine ⟨_, rfl, Zn, t, v, rfl, hv, sx, fun v1 H1 s1 a1 => ?_⟩
  refine ⟨_, rfl, Zn, t, v, rfl, hv.same s1, sx, fun v2 H2 s2 a2 => ?_⟩
  rw [← read_same] at a2
  have a1' := a1.same s2
  have s12 := s1.trans s2
  refine ⟨_, rfl, rfl, _, rfl, ?_⟩
  rw [a2.isN]
  rcases readM_cases t with e | ⟨z, rows, x, ok, rfl, ex⟩
  · rw [e] at a1' a2 ⊢
    refine iteT ⟨_, rfl, rfl, ?_⟩
    rw [a1'.isN]
    exact q H2 s12
  · rw [readM_text ok ex] at a1' a2 ⊢
    cases hv
    have gm := ok.gd
    refine iteF ⟨_, rfl, _, _, v1, 1000, 60, 5, rfl, a1', gm, by omega, by decide, by omega, _, rfl, _, _, v2, 1000, 60, 5, rfl, a2, gm, by omega, by decide, by omega, rfl, _, rfl, ?_⟩
    rw [decide_eq_true rfl]
    refine iteT ⟨_, rfl, _, _, v1, rfl, a1', ok.short, fun z' rows' e1 ok' y H3 s3 ey => ?_, fun mb => absurd (mb.symm.trans ok.mach) (by decide)⟩
    obtain ⟨rfl, e3⟩ := mach_inj e1
    subst e3
    refine ⟨_, rfl, rfl, ?_⟩
    rw [eq_tl, ey, ex, decide_eq_true rfl]
    exact q H3 (s12.trans s3)
end
theorem signs_of {Z : Zone} {H : Hp} : ∀ {ts : List Th} {vs : List V}, AtAll Z H ts vs → (∀ t ∈ ts, ∃ c : Nat, t = .str ⟨#[c]⟩) → ∃ us : List Str, vs = us.map V.str ∧ (∀ u ∈ us, u.length ≤ 1) ∧ us.length = ts.length
  | [], _, h, _ => ⟨[], h, fun u m => (nomatch m), rfl⟩
  | t :: ts, _, ⟨u, us, e, h, r⟩, g => by
    obtain ⟨c, rfl⟩ := g t List.mem_cons_self
    obtain ⟨ys, rfl, l1, l2⟩ := signs_of r fun t m => g t (List.mem_cons_of_mem _ m)
    cases h
    exact ⟨⟨#[c]⟩ :: ys, by rw [e]; rfl, fun u m => by
      rcases List.mem_cons.mp m with rfl | m
      · exact Nat.le_refl 1
      · exact l1 u m, by rw [List.length_cons, List.length_cons, l2]⟩
theorem law_body {P : Program} {w : World} {K : PySem.W.Frag} {mg : Str → Option Value} {base : Heap} {k : Nat} {f : Addr} {cdv : Value} {A : Around} {outer : List Env} {s : Shared} {H : Hp} {vs : List V} {Q : VK} {E : XK} (Z : Zs mg)
    (c_law_well : Cal P w K mg base CX0 k "_law_well" ["_law_script"] (spWell K)) (c_law_draw : Cal P w K mg base CX0 k "_law_draw" ["_law_well_here", "_law_many"] spDraw) (c_law_machine : Cal P w K mg base CX0 k "_law_machine" ["_law_well_here"] spMach) (c_law_machine_text : Cal P w K mg base CX0 k "_law_machine_text" ["_law_machine_here"] spLMX) (c_law_bent : Cal P w K mg base CX0 k "_law_bent" ["_law_well_here", "_law_text"] spBent) (c_law_any : Cal P w K mg base CX0 k "_law_any" ["_law_well_here", "_law_deep"] (spAny 4)) (c_law_right : CalG P w K mg base k "_law_right" ["_law_thing"] spRight)
    (rG : (cxOf CX0 P w K mg base sc_lawN "law" (defScope s_law) f cdv A outer s H E).nox.A.guards = some []) (hr : Room k (A.deeper (envOfC "law" (defScope s_law) s.heap.objs.size f cdv))) (h : spLaw K vs H Q E) :
    ∃ t, PSs (cxOf CX0 P w K mg base sc_lawN "law" (defScope s_law) f cdv A outer s H E).nox (defBody s_law) t ∧ t { nx := fun _ H' => Q .non H', rt := Q } (L2.start sc_lawN vs) H := by
  have rU := hr.units
  obtain ⟨a, ns, rfl, hS, h63, q⟩ := h
  refine ⟨_, (pss_cons (ps_set (i := 1) sc_law.nd rfl (Or.inr rfl) (pe_cal c_law_well hr (by rfl) (pa_cons (pv 0) pa_nil)))
      (pss_cons (ps_set (i := 2) sc_law.nd rfl (Or.inl rfl) (pe_cal c_law_machine_text hr (by rfl) (pa_cons (pe_cal c_law_machine hr (by rfl) (pa_cons (pv 1) pa_nil)) pa_nil)))
      (pss_cons (ps_if (pt_not (pt_val (pe_calG c_law_right hr rG (by rfl) (pa_cons (pv 2) pa_nil)))) (pss_one (ps_ret pe_bl)) pss_nil)
      (pss_cons (ps_for PassesOwn.never rfl (pi_range1 (by rfl) Z.range (pa_cons pe_int pa_nil)) (pg_name (i := 3) sc_law.nd rfl (Or.inl rfl)) (pss_cons (ps_set (i := 4) sc_law.nd rfl (Or.inl rfl) (pv 2))
      (pss_cons (ps_for PassesOwn.never rfl (pi_range1 (by rfl) Z.range (pa_cons (pe_op op_add pe_int (pe_callTy (T := "int") call_int1 (by rfl) Z.int (by decide +kernel) (pa_cons (pe_cmpR op_eq (pe_cal c_law_draw hr (by rfl) (pa_cons (pv 1) (pa_cons pe_int pa_nil))) pe_int (nomark _)) pa_nil))) pa_nil)) (pg_name (i := 5) sc_law.nd rfl (Or.inl rfl)) (pss_one (ps_set (i := 4) sc_law.nd rfl (Or.inl rfl) (pe_cal c_law_bent hr (by rfl) (pa_cons (pv 1) (pa_cons (pv 4) pa_nil))))))
      (pss_one (ps_if (pt_not (pt_val (pe_calG c_law_right hr rG (by rfl) (pa_cons (pv 4) pa_nil)))) (pss_one (ps_ret pe_bl)) pss_nil)))))
      (pss_cons (ps_set (i := 6) sc_law.nd rfl (Or.inl rfl) (pe_join pe_str (pe_lc (own := [("_law_k", 5)]) (g := gName 5) (tt := tYes) rfl sc_law.nd (pi_range1 (by rfl) Z.range (pa_cons (pe_cal c_law_draw hr (by rfl) (pa_cons (pv 1) (pa_cons pe_int pa_nil))) pa_nil)) (blkOk_by (N := ["_law_script", "_law_well_here", "_law_text", "_law_turn", "_law_bent_here", "_law_k", "_law_signs"]) (sc := defScope s_law) (by decide +kernel)) (fun _ _ _ _ _ => (pg_name (i := 5) sc_law.nd rfl (Or.inl rfl))) (fun _ _ _ _ _ => pts_nil) (fun _ _ _ _ _ => (pe_item_str pe_str (pe_cal c_law_draw hr (by rfl) (pa_cons (pv 1) (pa_cons pe_int pa_nil))) (fun _ _ => rfl))))))
      (pss_one (ps_ret (pe_and (pe_calG c_law_right hr rG (by rfl) (pa_cons (pv 6) pa_nil)) (pe_and (pe_calG c_law_right hr rG (by rfl) (pa_cons (pe_cal c_law_any hr (by rfl) (pa_cons (pv 1) (pa_cons pe_int pa_nil))) pa_nil)) (pe_one (pe_calG c_law_right hr rG (by rfl) (pa_cons (pe_op op_add_str pe_str (pv 6)) pa_nil)))))))))))), ?_⟩
  have strA : ∀ (G : Hp) (x : Str), At (fun _ => False) G (.str x) (.str x) := fun _ _ => rfl
  have le9 : ∀ x : Str, x.length ≤ 900000 → ∀ y, Th.str x = .str y → y.length ≤ 900000 := fun x h y e => by cases e; exact h
  refine ⟨_, rfl, a, ns, rfl, hS, h63, fun W c H1 s1 n1 w1 => ?_⟩
  refine ⟨_, rfl, W, c, rfl, w1, fun vm tm H2 s2 w2 a2 g2 => ?_⟩
  obtain ⟨z, rows, rfl, ok⟩ := machB_ok g2.2
  refine ⟨_, z, rows, vm, rfl, a2, ok, fun x H3 s3 ex => ?_⟩
  have lx : x.length ≤ 2000 := by rw [len_tl, ex]; exact machL_len ok
  have w3 := w2.same s3
  refine ⟨_, rfl, _, .str x, _, rfl, strA _ _, le9 x (by omega), fun H4 s4 => ⟨_, rfl, iteF ?_⟩⟩
  have w4 := w3.same s4
  refine ⟨8, rfl, by decide, by decide, ?_⟩
  refine for_range (lo := 0) (n := (8 : Int).toNat) (fun i σ' H' => WellAt W c H' ∧ ∃ y3 y4 y5 : Option V, σ' = [some (.ref a), some (.ref W), some (.str x), y3, y4, y5, none]) ⟨w4, _, _, _, rfl⟩ (fun i σ' H5 hi hh => ?_) (fun σ' H5 hh => ?_)
  · obtain ⟨w5, y3, y4, y5, rfl⟩ := hh
    refine ⟨_, rfl, ?_⟩
    dsimp only [gName]
    refine rd_seq (fun σ' H' => WellAt W c H' ∧ ∃ (y : Str) (y5 : Option V), σ' = [some (.ref a), some (.ref W), some (.str x), some (.int (0 + (i : Nat))), some (.str y), y5, none] ∧ y.length ≤ 100000) (fun N hN => ?_) (fun σ' H6 hh => ?_)
    · refine ⟨_, rfl, W, c, 3, rfl, w5, by decide, by decide, fun r H6 r0 r1 s6 w6 => ⟨rfl, .inr ⟨_, rfl, _, _, rfl, rfl, _, rfl, ?_⟩⟩⟩
      obtain ⟨f0, f1⟩ := flag_ix (decide (V.int r = V.int 0))
      generalize (if decide (V.int r = V.int 0) = true then (1 : Int) else 0) = fl at f0 f1
      refine ⟨by omega, by omega, ?_⟩
      refine for_range (lo := 0) (n := (1 + fl).toNat) (fun j σ' H' => WellAt W c H' ∧ ∃ (y : Str) (y5 : Option V), σ' = [some (.ref a), some (.ref W), some (.str x), some (.int (0 + (i : Nat))), some (.str y), y5, none] ∧ y.length ≤ if j = 0 then 2000 else if j = 1 then 10010 else 50060) ⟨w6, x, _, rfl, lx⟩ (fun j σ' H7 hj hh => ?_) (fun σ' H7 hh => ?_)
      · obtain ⟨w7, y, y5, rfl, ly⟩ := hh
        have ly' : y.length ≤ 10010 := by
          have : j < 2 := by omega
          split at ly
          · omega
          · split at ly <;> omega
        refine ⟨_, rfl, _, rfl, W, c, y, rfl, w7, by omega, fun y' H8 s8 w8 l8 => ⟨w8, y', _, rfl, ?_⟩⟩
        rw [if_neg (by omega)]
        by_cases h0 : j = 0
        · subst h0
          rw [if_pos rfl] at ly
          rw [if_pos rfl]
          omega
        · rw [if_neg (by omega)]
          omega
      · obtain ⟨w7, y, y5, rfl, ly⟩ := hh
        refine hN _ _ ⟨w7, y, y5, rfl, ?_⟩
        split at ly
        · omega
        · split at ly <;> omega
    obtain ⟨w6, y, y5, rfl, ly⟩ := hh
    refine ⟨_, rfl, _, .str y, _, rfl, strA _ _, le9 y (by omega), fun H7 s7 => ⟨_, rfl, iteF ?_⟩⟩
    exact ⟨w6.same s7, _, _, _, rfl⟩
  · obtain ⟨w5, y3, y4, y5, rfl⟩ := hh
    refine ⟨⟨_, rfl⟩, ?_⟩
    refine ⟨_, rfl, W, c, 20, rfl, w5, by decide, by decide, fun r H6 r0 r1 s6 w6 => ⟨_, rfl, by omega, by omega, ?_⟩⟩
    have lS : ("size 1-:\n02" : Str).cps.size = 11 := by decide +kernel
    have lS2 : ("size 1-:\n02" : Str).length = 11 := by decide +kernel
    refine lc_new (W := W) (c := c) (lo := 0) (n := r.toNat) (G := fun t => ∃ cc : Nat, t = .str ⟨#[cc]⟩) w6 (by omega) (fun _ => rfl) (fun j H7 hj s7 w7 R hR => ?_) (fun D H7 vs ts s7 w7 nD eD aD lD gD => ?_)
    · refine ⟨_, rfl, W, c, 11, rfl, w7, by decide, by decide, fun r2 H8 a8 b8 s8 w8 => ?_⟩
      obtain ⟨cs, ecs⟩ : ∃ cs, ("size 1-:\n02" : Str).cps[r2.toNat]? = some cs := ⟨_, Array.getElem?_eq_getElem (by rw [lS]; omega)⟩
      exact ⟨_, _, cs, rfl, rfl, a8, by omega, by rw [lS2]; omega, ecs, hR _ (.str ⟨#[cs]⟩) H8 s8 w8 rfl ⟨cs, rfl⟩⟩
    · obtain ⟨us, rfl, l1, l2⟩ := signs_of aD gD
      have hs : sums us ≤ 20 := by
        have := sum_le (ws := us) (b := 1) l1
        show (us.map (·.length)).sum ≤ 20
        omega
      have e0 : ("" : Str).length = 0 := by decide +kernel
      have jl := join_len "" us
      rw [e0, Nat.mul_zero] at jl
      refine ⟨_, D, us, rfl, rfl, .inl (.of eD), by rw [e0]; show sums us + us.length * 0 ≤ _; omega, ?_⟩
      generalize Txt.join "" us = sg at jl
      dsimp only [gName]
      refine ⟨_, rfl, _, .str sg, _, rfl, strA _ _, le9 sg (by omega), fun H8 s8 => ⟨_, rfl, iteT ?_⟩⟩
      have w8 := w7.same s8
      refine ⟨_, rfl, W, c, 2, rfl, w8, by decide, fun v t H9 s9 w9 a9 g9 => ?_⟩
      refine ⟨_, t, v, rfl, a9, fun x' e' => ?_, fun HA sA => ⟨_, rfl, iteT ?_⟩⟩
      · subst e'
        have := g9.b
        have e2 : anyB 2 = 113 := rfl
        have e3 : bk (.str x') = x'.length := rfl
        omega
      have l7 : ("size 1\n" : Str).length = 7 := by decide +kernel
      refine ⟨_, rfl, _, _, rfl, rfl, by rw [l7, sizeLine_eq]; omega, _, .str _, _, rfl, strA _ _, le9 _ (by rw [app_len, l7]; omega), fun HB sB => q HB⟩
end KL
end
section
end
section
set_option maxHeartbeats 1000000
namespace KL
open PySem PySem.Spec PyProof.Rows L2
/-- a def's run from one call, by its body there -/
theorem run_one {P : Program} {w : World} {K : PySem.W.Frag} {mg : Str → Option Value} {base : Heap} {k : Nat} {x : Str} {st : Stmt} {f : Addr} {fd : FuncData} {N ps : List Str} {A : Around} {outer : List Env} {s : Shared} {H : Hp} {args : Args} {us : List Value} {vs : List V} {Q : VK} {E : XK}
    (F : Fun K x x st f fd) (S : FnScope N ps (defScope st)) (hr : Room (k + 1) A) (e0 : Env0 P w K mg base A outer s H) (hb : BindsTo s fd args (ps.zip us)) (r : Vals vs us) (hl : vs.length = ps.length)
    (body : ∀ cdv, Room k (A.deeper (envOfC x (defScope st) s.heap.objs.size f cdv)) → ∃ t, PSs (cxOf CX0 P w K mg base N x (defScope st) f cdv A outer s H E).nox (defBody st) t ∧ t { nx := fun _ H' => Q .non H', rt := Q } (L2.start N vs) H) :
    codeAny (model P w) A (.call (.ref f) args) (CR CX0 outer P w H s Q E) s := by
  obtain ⟨oc, od, kV, doc, pm, an, cdv, ct, osl, rfl, lk, hcd⟩ := F.ex
  have kin : K.In s.heap := e0.mod.kin.keeps fun b o q => (e0.bs b o q).1
  have room1 := e0.mod.nolimit.keeps fun b o q => (e0.bs b o q).1
  have kinds : ∀ y ∈ ps.zip us, (defScope st).names.lookup y.1 = some .local ∨ ((defScope st).names.lookup y.1 = some .cell ∧ ((cellsFrom (s.heap.objs.size + 1) (defScope st).names []).lookup y.1).isSome = true) := by
    rintro ⟨n, v⟩ hy
    have hm := (List.of_mem_zip hy).1
    rcases S.par n hm with z | z
    · exact .inl z
    · exact .inr ⟨z, PySem.W.cellsFrom_some _ _ _ (.inl z)⟩
  refine codeAny_call_function hr.depth (kin _ _ lk) rfl S.co S.gen rfl (PySem.W.codeRec_of kin hcd) (hb _ _ _ _ ?_)
  refine wpAny_newFunctionEnv_cells S.kind kinds fun e1 he1 st1 xx => ?_
  subst he1
  refine ⟨room1.keeps xx.toInCall.keep, codeAny_func ?_⟩
  obtain ⟨t, ht, hq⟩ := body cdv (hr.deeper _)
  have J : Inv (cxOf CX0 P w K mg base N x (defScope st) f cdv A outer s H E) [] (L2.start N vs) H st1 := inv_start S hr.hd e0 hl r xx
  refine wpAny_mono (ht.nox.run [] st1 (L2.start N vs) H _ J hq) (fun fl s2 hs => ?_) fun e s2 hs => hs
  cases fl with
  | ret u =>
    obtain ⟨v, σ2, H2, J2, rv, q2⟩ := hs
    exact ⟨v, H2, J2.os, J2.bare, J2.base, J2.hok, rv, q2⟩
  | next =>
    obtain ⟨σ2, H2, J2, q2⟩ := hs
    exact ⟨V.non, H2, J2.os, J2.bare, J2.base, J2.hok, rfl, q2⟩
  | brk => obtain ⟨_, _, _, q2⟩ := hs; exact q2.elim
  | cont => obtain ⟨_, _, _, q2⟩ := hs; exact q2.elim
/-- the law's call, where the library's word hands on all that is known of the caller -/
theorem call_one {P : Program} {w : World} {K : PySem.W.Frag} {mg mb : Str → Option Value} {fa a : Addr} {s1 : Shared} {vs : List Value} {ns : List Int}
    (kin : K.In s1.heap) (nsg : s1.heap.Ns mainGlobals mg) (nsb : s1.heap.Ns builtinsNs mb) (bb : ∀ x : Str, x ≠ "__name__" → mb x = bootBuiltins x) (lim : s1.heap.NoLimit) (bare : s1.gens = #[]) (sys : ∃ mm, s1.heap.Ns sysModules mm)
    (ha : s1.heap.get? a = some { cls := .type "list", data := .seq vs.toArray }) (hi : IntsAre vs ns) (hl : ns.length ≤ sizeLine)
    (run : ∀ (base : Heap) (H : Hp), (∃ o, base.get? sysModules = some o) → Env0 P w K mg base callerA [] s1 H → SqL K H a (ns.map V.int) →
      codeAny (model P w) callerA (.call (.ref fa) ⟨[.ref a], []⟩) (CR CX0 [] P w H s1 (fun v _ => v = .bl true) fun _ _ _ => False) s1) :
    codeAny (model P w) callerA (.call (.ref fa) ⟨[.ref a], []⟩) (fun r s2 => r = .ok (.ret (.bool true)) ∧ OldK s1.heap s2.heap ∧ s2.os = s1.os ∧ AllBare s2.gens) s1 := by
  have vals := vals_ints hi
  have lens := hi.length
  have main : ∀ H : Hp, (∀ b, H b = none ∨ ∃ o xs, H b = some (.frz o (.lst xs))) → SqL K H a (ns.map V.int) → HOk P w H s1.heap → (∀ b, H b ≠ none → b = a) → (H a ≠ none → K.lookup a = none) →
      codeAny (model P w) callerA (.call (.ref fa) ⟨[.ref a], []⟩) (fun r s2 => r = .ok (.ret (.bool true)) ∧ OldK s1.heap s2.heap ∧ s2.os = s1.os ∧ AllBare s2.gens) s1 := by
    intro H only hS ok onlyA notK
    have dicts : ∀ {b : Addr} {o : Obj} {es : Array DictEntry} {ep : Nat}, s1.heap.get? b = some o → o.data = .dict es ep → H b = none := by
      intro b o es ep e d
      cases q : H b with
      | none => rfl
      | some u =>
        have eb : b = a := onlyA b (by rw [q]; exact Option.some_ne_none _)
        rw [eb, ha] at e
        cases e
        cases d
    have names : ∀ {b : Addr} {m : Str → Option Value}, s1.heap.Ns b m → (hidT s1.heap H).Ns b m := by
      rintro b m ⟨o, es, ep, e, d, r⟩
      exact ⟨o, es, ep, hidT_get e (dicts e d), d, r⟩
    have kb : K.In (hidT s1.heap H) := by
      intro b o e
      refine hidT_get (kin b o e) ?_
      cases q : H b with
      | none => rfl
      | some u =>
        have eb : b = a := onlyA b (by rw [q]; exact Option.some_ne_none _)
        rw [eb] at e q
        rw [notK (by rw [q]; exact Option.some_ne_none _)] at e
        cases e
    have lim2 : (hidT s1.heap H).NoLimit := by
      obtain ⟨mc, l1, l2⟩ := lim
      exact ⟨mc, names l1, l2⟩
    have sys2 : ∃ o, (hidT s1.heap H).get? sysModules = some o := by
      obtain ⟨mm, hm⟩ := sys
      obtain ⟨o, _, _, e, _⟩ := names hm
      exact ⟨o, e⟩
    have e0 : Env0 P w K mg (hidT s1.heap H) callerA [] s1 H :=
      ⟨rfl, ⟨kb, names nsg, ⟨mb, names nsb, bb⟩, lim2⟩, fun b o e => of_hidT e, Nat.le_of_eq (hidT_size _ _), trivial, fun b hb => (by cases hb), ok, .of_eq bare⟩
    refine codeAny_mono (run _ H sys2 e0 hS) fun r s2 h => ?_
    match r, h with
    | .ok (.ret u), h =>
      obtain ⟨v, H2, os, gens, un, ok2, rv, q⟩ := h
      cases (show v = .bl true from q)
      cases (show u = Value.bool true from rv)
      refine ⟨rfl, OldK.of_keep fun b o e => ?_, os, gens⟩
      rcases only b with z | ⟨ob, xs, z⟩
      · exact un.keep b o e z (fun m => by cases m) (fun m => by cases m)
      · obtain ⟨q1, _⟩ := ok b _ z
        obtain ⟨q2, _⟩ := ok2 b _ (un.frzs b ob _ z)
        rw [e] at q1
        cases q1
        exact q2
  cases hk : K.lookup a with
  | some o =>
    have e := kin a o hk
    rw [ha] at e
    cases e
    exact main (fun _ => none) (fun _ => .inl rfl) (.inr ⟨_, vs.toArray, _, hk, rfl, rfl, rfl, by rw [List.size_toArray, lens]; exact hl, by simpa using vals⟩) (fun b u z => by cases (show (none : Option HO) = some u from z)) (fun b z => absurd rfl z) fun z => absurd rfl z
  | none =>
    have at_a : ∀ b u, (fun b => if b = a then some (HO.frz { cls := .type "list", data := .seq vs.toArray } (.lst (ns.map V.int))) else none) b = some u → b = a ∧ u = .frz { cls := .type "list", data := .seq vs.toArray } (.lst (ns.map V.int)) := by
      intro b u z
      by_cases hb : b = a
      · have z2 := (if_pos hb).symm.trans z
        cases z2
        exact ⟨hb, rfl⟩
      · have z2 := (if_neg hb).symm.trans z
        cases z2
    refine main (fun b => if b = a then some (.frz { cls := .type "list", data := .seq vs.toArray } (.lst (ns.map V.int))) else none) (fun b => ?_) (.inl (.inr ⟨_, if_pos rfl⟩)) (fun b u z => ?_) (fun b z => ?_) fun _ => hk
    · by_cases hb : b = a
      · exact .inr ⟨_, _, if_pos hb⟩
      · exact .inl (if_neg hb)
    · obtain ⟨rfl, rfl⟩ := at_a b u z
      exact ⟨ha, by rw [List.length_map]; exact hl, vs, _, vals, ha⟩
    · by_cases hb : b = a
      · exact hb
      · exact absurd (if_neg hb) z
/-- the goal that the head leaves -/
theorem walk_one {l : PySem.W.OpenLaw} {q : Program} {loose : List Str} {XP : (Str → Option Value) → Heap → Prop} {YP : World → Heap → Prop} {d : DefRec} {K : Params → PySem.W.Frag}
    (hn : l.most = some 63) (hdf : d.params.defaults = []) (imp : importsNone q = true) (hY : ∀ (w : World) (h : Heap), YP w h → (K w.params).In h)
    (run : ∀ (w : World) (mg : Str → Option Value) (fa : Addr) (h : Heap), (K w.params).In h → h.Ns mainGlobals mg → mg d.name = some (.ref fa) → ∀ (base : Heap) (H : Hp) (s : Shared) (a : Addr) (ns : List Int), ns.length ≤ 63 → (∃ o, base.get? sysModules = some o) →
      Env0 l.prog w (K w.params) mg base callerA [] s H → SqL (K w.params) H a (ns.map V.int) →
      codeAny (model l.prog w) callerA (.call (.ref fa) ⟨[.ref a], []⟩) (CR CX0 [] l.prog w H s (fun v _ => v = .bl true) fun _ _ _ => False) s) :
    PySem.W.WalkO q loose XP YP l.row.toRowW d [] (fun f vs => PySem.call f vs) := by
  refine Att.attach_call hn hdf fun w s0 s1 mg mb fa o pm cd doc a vs ns G Y ho hd hcd hmg hobj hints hlen hg => ?_
  have kin := hY w _ Y
  obtain ⟨mm, hm, _⟩ := (G.T.seer imp).mods
  exact call_one kin G.T.g G.T.b G.T.builtins G.T.nolimit hg ⟨mm, hm⟩ hobj hints (Nat.le_trans hlen (by decide)) fun base H hs e0 hS => run w mg fa _ kin G.T.g hmg base H s1 a ns hlen hs e0 hS
end KL
end
section
set_option maxHeartbeats 4000000
namespace KL
open PySem PySem.Spec PyProof.Rows L2
/-- a def of the text, as the top has left it -/
theorem def_mk {K : PySem.W.Frag} {h : Heap} {mg : Str → Option Value} {x : Str} {st : Stmt} {ps : List Str} {f : Addr} {oc kV dc pm cd ct : Value} {od an : Option Addr} {sl : Array (Option Value)} (X : K.In h) (G : h.Ns mainGlobals mg)
    (a : PySem.W.nsIn K mainGlobals x = some (some (.ref f))) (l : K.lookup f = some ⟨oc, od, .func (PySem.W.fnOf x x (defArgs st) (defBody st) (defScope st) .none kV dc pm an cd ct), sl⟩) (c : PySem.W.codeIn K cd x = true) (k : PySem.W.keepIn K (.ref f) = true)
    (b : ∀ (kV doc pm : Value) (an : Option Addr) (cdv ct : Value) (us : List Value), us.length = ps.length → bindArgs (PySem.W.fnOf x x (defArgs st) (defBody st) (defScope st) .none kV doc pm an cdv ct) ⟨us, []⟩ = pure (ps.zip us)) : Def K mg x st ps :=
  have F := fun_mk (st := st) l c k
  ⟨_, _, F, PySem.W.mg_of X G a, F.binds b⟩
/-- an error of the class S by a handler of the class S' -/
theorem caught {K : PySem.W.Frag} {S S' : Addr} {b : Bool} (h1 : PySem.W.subIn K (.ref S') (.type "BaseException") = some true) (h2 : PySem.W.isClsIn K S' = true) (h3 : PySem.W.typeIn K (.ref S') = some (.type "type")) (h4 : PySem.W.subIn K (.ref S) (.ref S') = some b) : PySem.W.exmOne K (.ref S) (.ref S') = some b := by
  have g : (PySem.W.clsIn K S').isSome = true := h2
  unfold PySem.W.exmOne PySem.W.kitCls
  rw [h1]
  simp only [beq_self_eq_true, if_true, g, h3, h4, Bool.and_self]
/-- all that the law leans on -/
structure Facts (K : PySem.W.Frag) (mg : Str → Option Value) (fa : Addr) : Prop where
  Z : Zs mg
  M : ∃ t1 t2 t3, Ms mg t1 t2 t3
  T : ∃ C_NoMachine, Er K mg "NoMachine" C_NoMachine ∧ ∃ L, mg "LengthError" = some (.ref L)
  c_DIGITS : ∃ t, mg "DIGITS" = some (.str "0123456789" t)
  is_number : Def K mg "is_number" s_is_number ["thing"]
  is_within : Def K mg "is_within" s_is_within ["thing", "low", "high"]
  is_pair : Def K mg "is_pair" s_is_pair ["thing"]
  is_machine : Def K mg "is_machine" s_is_machine ["thing"]
  is_framed : Def K mg "is_framed" s_is_framed ["thing"]
  is_size : Def K mg "is_size" s_is_size ["thing"]
  is_row : Def K mg "is_row" s_is_row ["thing", "size", "states"]
  is_step : Def K mg "is_step" s_is_step ["thing", "states"]
  demand_machine : Def K mg "demand_machine" s_demand_machine ["thing"]
  machine_text : Def K mg "machine_text" s_machine_text ["machine"]
  read_machine : Def K mg "read_machine" s_read_machine ["text"]
  row_text : Def K mg "row_text" s_row_text ["row"]
  read_row : Def K mg "read_row" s_read_row ["line"]
  read_step : Def K mg "read_step" s_read_step ["word"]
  read_digits : Def K mg "read_digits" s_read_digits ["word"]
  law_mixed : Def K mg "_law_mixed" s_law_mixed ["_law_number"]
  law_well : Def K mg "_law_well" s_law_well ["_law_script"]
  law_filled : Def K mg "_law_filled" s_law_filled ["_law_well_here"]
  law_draw : Def K mg "_law_draw" s_law_draw ["_law_well_here", "_law_many"]
  law_any : Def K mg "_law_any" s_law_any ["_law_well_here", "_law_deep"]
  law_more : Def K mg "_law_more" s_law_more ["_law_well_here"]
  law_step : Def K mg "_law_step" s_law_step ["_law_well_here", "_law_states", "_law_lack"]
  law_end : Def K mg "_law_end" s_law_end ["_law_well_here", "_law_lack"]
  law_machine : Def K mg "_law_machine" s_law_machine ["_law_well_here"]
  law_is_int : Def K mg "_law_is_int" s_law_is_int ["_law_thing", "_law_least", "_law_most"]
  law_long : Def K mg "_law_long" s_law_long ["_law_thing", "_law_many"]
  law_step_fits : Def K mg "_law_step_fits" s_law_step_fits ["_law_thing", "_law_states"]
  law_row_fits : Def K mg "_law_row_fits" s_law_row_fits ["_law_thing", "_law_size", "_law_states"]
  law_machine_fits : Def K mg "_law_machine_fits" s_law_machine_fits ["_law_thing"]
  law_step_text : Def K mg "_law_step_text" s_law_step_text ["_law_step_here"]
  law_machine_text : Def K mg "_law_machine_text" s_law_machine_text ["_law_machine_here"]
  law_digits : Def K mg "_law_digits" s_law_digits ["_law_word"]
  law_read_step : Def K mg "_law_read_step" s_law_read_step ["_law_word"]
  law_read_row : Def K mg "_law_read_row" s_law_read_row ["_law_line"]
  law_read : Def K mg "_law_read" s_law_read ["_law_text"]
  law_bent_row : Def K mg "_law_bent_row" s_law_bent_row ["_law_well_here", "_law_row"]
  law_bent : Def K mg "_law_bent" s_law_bent ["_law_well_here", "_law_text"]
  law_right : Def K mg "_law_right" s_law_right ["_law_thing"]
  law : ∃ fd, Fun K "law" "law" s_law fa fd ∧ Binds K fd ["_law_script"] []
theorem Facts.run {K : PySem.W.Frag} {mg : Str → Option Value} {fa : Addr} (F : Facts K mg fa) {P : Program} {w : World} (base : Heap) (H : Hp) (s : Shared) (a : Addr) (ns : List Int) (h63 : ns.length ≤ 63) (hs : ∃ o, base.get? sysModules = some o)
    (e0 : Env0 P w K mg base callerA [] s H) (hS : SqL K H a (ns.map V.int)) : codeAny (model P w) callerA (.call (.ref fa) ⟨[.ref a], []⟩) (CR CX0 [] P w H s (fun v _ => v = .bl true) fun _ _ _ => False) s := by
  obtain ⟨t1, t2, t3, M⟩ := F.M
  obtain ⟨C_NoMachine, E_NoMachine, L, gL⟩ := F.T
  obtain ⟨fd, fl, bl⟩ := F.law
  have Z := F.Z
  obtain ⟨td, hDG⟩ := F.c_DIGITS
  have D := (⟨hDG⟩ : Ds mg td)
  have n1 := ok_is_number (P := P) (w := w) (base := base) (k := 0) Z F.is_number
  have p1 := ok_is_pair (P := P) (w := w) (base := base) (k := 0) Z F.is_pair
  have w2 := ok_is_within (k := 1) n1 F.is_within
  have z3 := ok_is_size (k := 2) M w2 F.is_size
  have s3 := ok_is_step (k := 2) M (p1.mono (by omega)) w2 F.is_step
  have r4 := ok_is_row (k := 3) Z M (p1.mono (by omega)) (w2.mono (by omega)) s3 F.is_row
  have fr4 := ok_is_framed (k := 3) Z M (p1.mono (by omega)) z3 F.is_framed
  have m5 := ok_is_machine (k := 4) Z fr4 r4 F.is_machine
  have dm6 := ok_demand_machine (k := 5) E_NoMachine m5 F.demand_machine
  have rt1 := ok_row_text (P := P) (w := w) (base := base) (k := 0) Z F.row_text
  have mt7 := ok_machine_text (k := 6) dm6 (rt1.mono (by omega)) F.machine_text
  have rd1 := ok_read_digits (P := P) (w := w) (base := base) (k := 0) Z D F.read_digits
  have rs2 := ok_read_step (k := 1) rd1 F.read_step
  have rr3 := ok_read_row (k := 2) Z (rd1.mono (by omega)) rs2 F.read_row
  have rm8 := ok_read_machine (k := 7) Z (rd1.mono (by omega)) (rr3.mono (by omega)) (m5.mono (by omega)) mt7 F.read_machine
  have li1 := ok_law_is_int (P := P) (w := w) (base := base) (k := 0) Z F.law_is_int
  have ll1 := ok_law_long (P := P) (w := w) (base := base) (k := 0) Z F.law_long
  have sf2 := ok_law_step_fits (k := 1) li1 ll1 F.law_step_fits
  have rf3 := ok_law_row_fits (k := 2) Z (li1.mono (by omega)) (ll1.mono (by omega)) sf2 F.law_row_fits
  have mf4 := ok_law_machine_fits (k := 3) Z (li1.mono (by omega)) (ll1.mono (by omega)) rf3 F.law_machine_fits
  have mx1 := ok_law_mixed (P := P) (w := w) (base := base) (k := 0) Z F.law_mixed
  have fi2 := ok_law_filled (k := 1) Z mx1 F.law_filled
  have dr3 := ok_law_draw (k := 2) Z fi2 F.law_draw
  have we1 := ok_law_well (P := P) (w := w) (base := base) (k := 0) Z F.law_well
  have an4 := any_all Z dr3 F.law_any 4
  have mo4 := ok_law_more (k := 3) dr3 F.law_more
  have st5 := ok_law_step (k := 4) (dr3.mono (by omega)) mo4 F.law_step
  have en4 := ok_law_end (k := 3) Z dr3 F.law_end
  have ma6 := ok_law_machine (k := 5) Z (dr3.mono (by omega)) st5 (en4.mono (by omega)) F.law_machine
  have sx1 := ok_law_step_text (P := P) (w := w) (base := base) (k := 0) Z F.law_step_text
  have lx2 := ok_law_machine_text (k := 1) Z sx1 F.law_machine_text
  have dg1 := ok_law_digits (P := P) (w := w) (base := base) (k := 0) Z F.law_digits
  have ls2 := ok_law_read_step (k := 1) Z dg1 F.law_read_step
  have lr3 := ok_law_read_row (k := 2) Z (dg1.mono (by omega)) ls2 F.law_read_row
  have le5 := ok_law_read (k := 4) Z (dg1.mono (by omega)) (lr3.mono (by omega)) mf4 (lx2.mono (by omega)) F.law_read
  have br4 := ok_law_bent_row (k := 3) Z dr3 F.law_bent_row
  have be5 := ok_law_bent (k := 4) Z (dr3.mono (by omega)) br4 F.law_bent
  have ri9 := ok_law_right (k := 8) Z hs rm8 (le5.mono (by omega)) (mt7.mono (by omega)) F.law_right
  have kin : K.In s.heap := e0.mod.kin.keeps fun b o q => (e0.bs b o q).1
  refine run_one (k := 55) fl sc_law ⟨rfl, by decide, by decide⟩ e0 (bl s [.ref a] kin rfl) (.cons rfl .nil : Vals [V.ref a] [Value.ref a]) rfl fun cdv hr => ?_
  exact law_body (k := 55) (vs := [V.ref a]) (Q := fun v _ => v = V.bl true) (E := fun _ _ _ => False) Z (we1.mono (by omega)) (dr3.mono (by omega)) (ma6.mono (by omega)) (lx2.mono (by omega)) (be5.mono (by omega)) (an4.mono (by omega)) (ri9.mono (by omega)) rfl hr ⟨a, ns, rfl, hS, h63, fun _ => rfl⟩
theorem facts_mk {K : PySem.W.Frag} {h : Heap} {mg : Str → Option Value} {fa C_NoMachine L0 : Addr} {t1 t2 t3 : Tok} (X : K.In h) (G : h.Ns mainGlobals mg) (hfa : mg "law" = some (.ref fa))
    {f0 : Addr} {oc0 kV0 dc0 pm0 cd0 ct0 : Value} {od0 an0 : Option Addr} {sl0 : Array (Option Value)}
    {f1 : Addr} {oc1 kV1 dc1 pm1 cd1 ct1 : Value} {od1 an1 : Option Addr} {sl1 : Array (Option Value)}
    {f2 : Addr} {oc2 kV2 dc2 pm2 cd2 ct2 : Value} {od2 an2 : Option Addr} {sl2 : Array (Option Value)}
    {f3 : Addr} {oc3 kV3 dc3 pm3 cd3 ct3 : Value} {od3 an3 : Option Addr} {sl3 : Array (Option Value)}
    {f4 : Addr} {oc4 kV4 dc4 pm4 cd4 ct4 : Value} {od4 an4 : Option Addr} {sl4 : Array (Option Value)}
    {f5 : Addr} {oc5 kV5 dc5 pm5 cd5 ct5 : Value} {od5 an5 : Option Addr} {sl5 : Array (Option Value)}
    {f6 : Addr} {oc6 kV6 dc6 pm6 cd6 ct6 : Value} {od6 an6 : Option Addr} {sl6 : Array (Option Value)}
    {f7 : Addr} {oc7 kV7 dc7 pm7 cd7 ct7 : Value} {od7 an7 : Option Addr} {sl7 : Array (Option Value)}
    {f8 : Addr} {oc8 kV8 dc8 pm8 cd8 ct8 : Value} {od8 an8 : Option Addr} {sl8 : Array (Option Value)}
    {f9 : Addr} {oc9 kV9 dc9 pm9 cd9 ct9 : Value} {od9 an9 : Option Addr} {sl9 : Array (Option Value)}
    {f10 : Addr} {oc10 kV10 dc10 pm10 cd10 ct10 : Value} {od10 an10 : Option Addr} {sl10 : Array (Option Value)}
    {f11 : Addr} {oc11 kV11 dc11 pm11 cd11 ct11 : Value} {od11 an11 : Option Addr} {sl11 : Array (Option Value)}
    {f12 : Addr} {oc12 kV12 dc12 pm12 cd12 ct12 : Value} {od12 an12 : Option Addr} {sl12 : Array (Option Value)}
    {f13 : Addr} {oc13 kV13 dc13 pm13 cd13 ct13 : Value} {od13 an13 : Option Addr} {sl13 : Array (Option Value)}
    {f14 : Addr} {oc14 kV14 dc14 pm14 cd14 ct14 : Value} {od14 an14 : Option Addr} {sl14 : Array (Option Value)}
    {f15 : Addr} {oc15 kV15 dc15 pm15 cd15 ct15 : Value} {od15 an15 : Option Addr} {sl15 : Array (Option Value)}
    {f16 : Addr} {oc16 kV16 dc16 pm16 cd16 ct16 : Value} {od16 an16 : Option Addr} {sl16 : Array (Option Value)}
    {f17 : Addr} {oc17 kV17 dc17 pm17 cd17 ct17 : Value} {od17 an17 : Option Addr} {sl17 : Array (Option Value)}
    {f18 : Addr} {oc18 kV18 dc18 pm18 cd18 ct18 : Value} {od18 an18 : Option Addr} {sl18 : Array (Option Value)}
    {f19 : Addr} {oc19 kV19 dc19 pm19 cd19 ct19 : Value} {od19 an19 : Option Addr} {sl19 : Array (Option Value)}
    {f20 : Addr} {oc20 kV20 dc20 pm20 cd20 ct20 : Value} {od20 an20 : Option Addr} {sl20 : Array (Option Value)}
    {f21 : Addr} {oc21 kV21 dc21 pm21 cd21 ct21 : Value} {od21 an21 : Option Addr} {sl21 : Array (Option Value)}
    {f22 : Addr} {oc22 kV22 dc22 pm22 cd22 ct22 : Value} {od22 an22 : Option Addr} {sl22 : Array (Option Value)}
    {f23 : Addr} {oc23 kV23 dc23 pm23 cd23 ct23 : Value} {od23 an23 : Option Addr} {sl23 : Array (Option Value)}
    {f24 : Addr} {oc24 kV24 dc24 pm24 cd24 ct24 : Value} {od24 an24 : Option Addr} {sl24 : Array (Option Value)}
    {f25 : Addr} {oc25 kV25 dc25 pm25 cd25 ct25 : Value} {od25 an25 : Option Addr} {sl25 : Array (Option Value)}
    {f26 : Addr} {oc26 kV26 dc26 pm26 cd26 ct26 : Value} {od26 an26 : Option Addr} {sl26 : Array (Option Value)}
    {f27 : Addr} {oc27 kV27 dc27 pm27 cd27 ct27 : Value} {od27 an27 : Option Addr} {sl27 : Array (Option Value)}
    {f28 : Addr} {oc28 kV28 dc28 pm28 cd28 ct28 : Value} {od28 an28 : Option Addr} {sl28 : Array (Option Value)}
    {f29 : Addr} {oc29 kV29 dc29 pm29 cd29 ct29 : Value} {od29 an29 : Option Addr} {sl29 : Array (Option Value)}
    {f30 : Addr} {oc30 kV30 dc30 pm30 cd30 ct30 : Value} {od30 an30 : Option Addr} {sl30 : Array (Option Value)}
    {f31 : Addr} {oc31 kV31 dc31 pm31 cd31 ct31 : Value} {od31 an31 : Option Addr} {sl31 : Array (Option Value)}
    {f32 : Addr} {oc32 kV32 dc32 pm32 cd32 ct32 : Value} {od32 an32 : Option Addr} {sl32 : Array (Option Value)}
    {f33 : Addr} {oc33 kV33 dc33 pm33 cd33 ct33 : Value} {od33 an33 : Option Addr} {sl33 : Array (Option Value)}
    {f34 : Addr} {oc34 kV34 dc34 pm34 cd34 ct34 : Value} {od34 an34 : Option Addr} {sl34 : Array (Option Value)}
    {f35 : Addr} {oc35 kV35 dc35 pm35 cd35 ct35 : Value} {od35 an35 : Option Addr} {sl35 : Array (Option Value)}
    {f36 : Addr} {oc36 kV36 dc36 pm36 cd36 ct36 : Value} {od36 an36 : Option Addr} {sl36 : Array (Option Value)}
    {f37 : Addr} {oc37 kV37 dc37 pm37 cd37 ct37 : Value} {od37 an37 : Option Addr} {sl37 : Array (Option Value)}
    {f38 : Addr} {oc38 kV38 dc38 pm38 cd38 ct38 : Value} {od38 an38 : Option Addr} {sl38 : Array (Option Value)}
    {t_DIGITS : Tok}
    (a0 : PySem.W.nsIn K mainGlobals "is_number" = some (some (.ref f0))) (l0 : K.lookup f0 = some ⟨oc0, od0, .func (PySem.W.fnOf "is_number" "is_number" (defArgs s_is_number) (defBody s_is_number) (defScope s_is_number) .none kV0 dc0 pm0 an0 cd0 ct0), sl0⟩) (c0 : PySem.W.codeIn K cd0 "is_number" = true) (k0 : PySem.W.keepIn K (.ref f0) = true)
    (a1 : PySem.W.nsIn K mainGlobals "is_within" = some (some (.ref f1))) (l1 : K.lookup f1 = some ⟨oc1, od1, .func (PySem.W.fnOf "is_within" "is_within" (defArgs s_is_within) (defBody s_is_within) (defScope s_is_within) .none kV1 dc1 pm1 an1 cd1 ct1), sl1⟩) (c1 : PySem.W.codeIn K cd1 "is_within" = true) (k1 : PySem.W.keepIn K (.ref f1) = true)
    (a2 : PySem.W.nsIn K mainGlobals "is_pair" = some (some (.ref f2))) (l2 : K.lookup f2 = some ⟨oc2, od2, .func (PySem.W.fnOf "is_pair" "is_pair" (defArgs s_is_pair) (defBody s_is_pair) (defScope s_is_pair) .none kV2 dc2 pm2 an2 cd2 ct2), sl2⟩) (c2 : PySem.W.codeIn K cd2 "is_pair" = true) (k2 : PySem.W.keepIn K (.ref f2) = true)
    (a3 : PySem.W.nsIn K mainGlobals "is_machine" = some (some (.ref f3))) (l3 : K.lookup f3 = some ⟨oc3, od3, .func (PySem.W.fnOf "is_machine" "is_machine" (defArgs s_is_machine) (defBody s_is_machine) (defScope s_is_machine) .none kV3 dc3 pm3 an3 cd3 ct3), sl3⟩) (c3 : PySem.W.codeIn K cd3 "is_machine" = true) (k3 : PySem.W.keepIn K (.ref f3) = true)
    (a4 : PySem.W.nsIn K mainGlobals "is_framed" = some (some (.ref f4))) (l4 : K.lookup f4 = some ⟨oc4, od4, .func (PySem.W.fnOf "is_framed" "is_framed" (defArgs s_is_framed) (defBody s_is_framed) (defScope s_is_framed) .none kV4 dc4 pm4 an4 cd4 ct4), sl4⟩) (c4 : PySem.W.codeIn K cd4 "is_framed" = true) (k4 : PySem.W.keepIn K (.ref f4) = true)
    (a5 : PySem.W.nsIn K mainGlobals "is_size" = some (some (.ref f5))) (l5 : K.lookup f5 = some ⟨oc5, od5, .func (PySem.W.fnOf "is_size" "is_size" (defArgs s_is_size) (defBody s_is_size) (defScope s_is_size) .none kV5 dc5 pm5 an5 cd5 ct5), sl5⟩) (c5 : PySem.W.codeIn K cd5 "is_size" = true) (k5 : PySem.W.keepIn K (.ref f5) = true)
    (a6 : PySem.W.nsIn K mainGlobals "is_row" = some (some (.ref f6))) (l6 : K.lookup f6 = some ⟨oc6, od6, .func (PySem.W.fnOf "is_row" "is_row" (defArgs s_is_row) (defBody s_is_row) (defScope s_is_row) .none kV6 dc6 pm6 an6 cd6 ct6), sl6⟩) (c6 : PySem.W.codeIn K cd6 "is_row" = true) (k6 : PySem.W.keepIn K (.ref f6) = true)
    (a7 : PySem.W.nsIn K mainGlobals "is_step" = some (some (.ref f7))) (l7 : K.lookup f7 = some ⟨oc7, od7, .func (PySem.W.fnOf "is_step" "is_step" (defArgs s_is_step) (defBody s_is_step) (defScope s_is_step) .none kV7 dc7 pm7 an7 cd7 ct7), sl7⟩) (c7 : PySem.W.codeIn K cd7 "is_step" = true) (k7 : PySem.W.keepIn K (.ref f7) = true)
    (a8 : PySem.W.nsIn K mainGlobals "demand_machine" = some (some (.ref f8))) (l8 : K.lookup f8 = some ⟨oc8, od8, .func (PySem.W.fnOf "demand_machine" "demand_machine" (defArgs s_demand_machine) (defBody s_demand_machine) (defScope s_demand_machine) .none kV8 dc8 pm8 an8 cd8 ct8), sl8⟩) (c8 : PySem.W.codeIn K cd8 "demand_machine" = true) (k8 : PySem.W.keepIn K (.ref f8) = true)
    (a9 : PySem.W.nsIn K mainGlobals "machine_text" = some (some (.ref f9))) (l9 : K.lookup f9 = some ⟨oc9, od9, .func (PySem.W.fnOf "machine_text" "machine_text" (defArgs s_machine_text) (defBody s_machine_text) (defScope s_machine_text) .none kV9 dc9 pm9 an9 cd9 ct9), sl9⟩) (c9 : PySem.W.codeIn K cd9 "machine_text" = true) (k9 : PySem.W.keepIn K (.ref f9) = true)
    (a10 : PySem.W.nsIn K mainGlobals "read_machine" = some (some (.ref f10))) (l10 : K.lookup f10 = some ⟨oc10, od10, .func (PySem.W.fnOf "read_machine" "read_machine" (defArgs s_read_machine) (defBody s_read_machine) (defScope s_read_machine) .none kV10 dc10 pm10 an10 cd10 ct10), sl10⟩) (c10 : PySem.W.codeIn K cd10 "read_machine" = true) (k10 : PySem.W.keepIn K (.ref f10) = true)
    (a11 : PySem.W.nsIn K mainGlobals "row_text" = some (some (.ref f11))) (l11 : K.lookup f11 = some ⟨oc11, od11, .func (PySem.W.fnOf "row_text" "row_text" (defArgs s_row_text) (defBody s_row_text) (defScope s_row_text) .none kV11 dc11 pm11 an11 cd11 ct11), sl11⟩) (c11 : PySem.W.codeIn K cd11 "row_text" = true) (k11 : PySem.W.keepIn K (.ref f11) = true)
    (a12 : PySem.W.nsIn K mainGlobals "read_row" = some (some (.ref f12))) (l12 : K.lookup f12 = some ⟨oc12, od12, .func (PySem.W.fnOf "read_row" "read_row" (defArgs s_read_row) (defBody s_read_row) (defScope s_read_row) .none kV12 dc12 pm12 an12 cd12 ct12), sl12⟩) (c12 : PySem.W.codeIn K cd12 "read_row" = true) (k12 : PySem.W.keepIn K (.ref f12) = true)
    (a13 : PySem.W.nsIn K mainGlobals "read_step" = some (some (.ref f13))) (l13 : K.lookup f13 = some ⟨oc13, od13, .func (PySem.W.fnOf "read_step" "read_step" (defArgs s_read_step) (defBody s_read_step) (defScope s_read_step) .none kV13 dc13 pm13 an13 cd13 ct13), sl13⟩) (c13 : PySem.W.codeIn K cd13 "read_step" = true) (k13 : PySem.W.keepIn K (.ref f13) = true)
    (a14 : PySem.W.nsIn K mainGlobals "read_digits" = some (some (.ref f14))) (l14 : K.lookup f14 = some ⟨oc14, od14, .func (PySem.W.fnOf "read_digits" "read_digits" (defArgs s_read_digits) (defBody s_read_digits) (defScope s_read_digits) .none kV14 dc14 pm14 an14 cd14 ct14), sl14⟩) (c14 : PySem.W.codeIn K cd14 "read_digits" = true) (k14 : PySem.W.keepIn K (.ref f14) = true)
    (a15 : PySem.W.nsIn K mainGlobals "_law_mixed" = some (some (.ref f15))) (l15 : K.lookup f15 = some ⟨oc15, od15, .func (PySem.W.fnOf "_law_mixed" "_law_mixed" (defArgs s_law_mixed) (defBody s_law_mixed) (defScope s_law_mixed) .none kV15 dc15 pm15 an15 cd15 ct15), sl15⟩) (c15 : PySem.W.codeIn K cd15 "_law_mixed" = true) (k15 : PySem.W.keepIn K (.ref f15) = true)
    (a16 : PySem.W.nsIn K mainGlobals "_law_well" = some (some (.ref f16))) (l16 : K.lookup f16 = some ⟨oc16, od16, .func (PySem.W.fnOf "_law_well" "_law_well" (defArgs s_law_well) (defBody s_law_well) (defScope s_law_well) .none kV16 dc16 pm16 an16 cd16 ct16), sl16⟩) (c16 : PySem.W.codeIn K cd16 "_law_well" = true) (k16 : PySem.W.keepIn K (.ref f16) = true)
    (a17 : PySem.W.nsIn K mainGlobals "_law_filled" = some (some (.ref f17))) (l17 : K.lookup f17 = some ⟨oc17, od17, .func (PySem.W.fnOf "_law_filled" "_law_filled" (defArgs s_law_filled) (defBody s_law_filled) (defScope s_law_filled) .none kV17 dc17 pm17 an17 cd17 ct17), sl17⟩) (c17 : PySem.W.codeIn K cd17 "_law_filled" = true) (k17 : PySem.W.keepIn K (.ref f17) = true)
    (a18 : PySem.W.nsIn K mainGlobals "_law_draw" = some (some (.ref f18))) (l18 : K.lookup f18 = some ⟨oc18, od18, .func (PySem.W.fnOf "_law_draw" "_law_draw" (defArgs s_law_draw) (defBody s_law_draw) (defScope s_law_draw) .none kV18 dc18 pm18 an18 cd18 ct18), sl18⟩) (c18 : PySem.W.codeIn K cd18 "_law_draw" = true) (k18 : PySem.W.keepIn K (.ref f18) = true)
    (a19 : PySem.W.nsIn K mainGlobals "_law_any" = some (some (.ref f19))) (l19 : K.lookup f19 = some ⟨oc19, od19, .func (PySem.W.fnOf "_law_any" "_law_any" (defArgs s_law_any) (defBody s_law_any) (defScope s_law_any) .none kV19 dc19 pm19 an19 cd19 ct19), sl19⟩) (c19 : PySem.W.codeIn K cd19 "_law_any" = true) (k19 : PySem.W.keepIn K (.ref f19) = true)
    (a20 : PySem.W.nsIn K mainGlobals "_law_more" = some (some (.ref f20))) (l20 : K.lookup f20 = some ⟨oc20, od20, .func (PySem.W.fnOf "_law_more" "_law_more" (defArgs s_law_more) (defBody s_law_more) (defScope s_law_more) .none kV20 dc20 pm20 an20 cd20 ct20), sl20⟩) (c20 : PySem.W.codeIn K cd20 "_law_more" = true) (k20 : PySem.W.keepIn K (.ref f20) = true)
    (a21 : PySem.W.nsIn K mainGlobals "_law_step" = some (some (.ref f21))) (l21 : K.lookup f21 = some ⟨oc21, od21, .func (PySem.W.fnOf "_law_step" "_law_step" (defArgs s_law_step) (defBody s_law_step) (defScope s_law_step) .none kV21 dc21 pm21 an21 cd21 ct21), sl21⟩) (c21 : PySem.W.codeIn K cd21 "_law_step" = true) (k21 : PySem.W.keepIn K (.ref f21) = true)
    (a22 : PySem.W.nsIn K mainGlobals "_law_end" = some (some (.ref f22))) (l22 : K.lookup f22 = some ⟨oc22, od22, .func (PySem.W.fnOf "_law_end" "_law_end" (defArgs s_law_end) (defBody s_law_end) (defScope s_law_end) .none kV22 dc22 pm22 an22 cd22 ct22), sl22⟩) (c22 : PySem.W.codeIn K cd22 "_law_end" = true) (k22 : PySem.W.keepIn K (.ref f22) = true)
    (a23 : PySem.W.nsIn K mainGlobals "_law_machine" = some (some (.ref f23))) (l23 : K.lookup f23 = some ⟨oc23, od23, .func (PySem.W.fnOf "_law_machine" "_law_machine" (defArgs s_law_machine) (defBody s_law_machine) (defScope s_law_machine) .none kV23 dc23 pm23 an23 cd23 ct23), sl23⟩) (c23 : PySem.W.codeIn K cd23 "_law_machine" = true) (k23 : PySem.W.keepIn K (.ref f23) = true)
    (a24 : PySem.W.nsIn K mainGlobals "_law_is_int" = some (some (.ref f24))) (l24 : K.lookup f24 = some ⟨oc24, od24, .func (PySem.W.fnOf "_law_is_int" "_law_is_int" (defArgs s_law_is_int) (defBody s_law_is_int) (defScope s_law_is_int) .none kV24 dc24 pm24 an24 cd24 ct24), sl24⟩) (c24 : PySem.W.codeIn K cd24 "_law_is_int" = true) (k24 : PySem.W.keepIn K (.ref f24) = true)
    (a25 : PySem.W.nsIn K mainGlobals "_law_long" = some (some (.ref f25))) (l25 : K.lookup f25 = some ⟨oc25, od25, .func (PySem.W.fnOf "_law_long" "_law_long" (defArgs s_law_long) (defBody s_law_long) (defScope s_law_long) .none kV25 dc25 pm25 an25 cd25 ct25), sl25⟩) (c25 : PySem.W.codeIn K cd25 "_law_long" = true) (k25 : PySem.W.keepIn K (.ref f25) = true)
    (a26 : PySem.W.nsIn K mainGlobals "_law_step_fits" = some (some (.ref f26))) (l26 : K.lookup f26 = some ⟨oc26, od26, .func (PySem.W.fnOf "_law_step_fits" "_law_step_fits" (defArgs s_law_step_fits) (defBody s_law_step_fits) (defScope s_law_step_fits) .none kV26 dc26 pm26 an26 cd26 ct26), sl26⟩) (c26 : PySem.W.codeIn K cd26 "_law_step_fits" = true) (k26 : PySem.W.keepIn K (.ref f26) = true)
    (a27 : PySem.W.nsIn K mainGlobals "_law_row_fits" = some (some (.ref f27))) (l27 : K.lookup f27 = some ⟨oc27, od27, .func (PySem.W.fnOf "_law_row_fits" "_law_row_fits" (defArgs s_law_row_fits) (defBody s_law_row_fits) (defScope s_law_row_fits) .none kV27 dc27 pm27 an27 cd27 ct27), sl27⟩) (c27 : PySem.W.codeIn K cd27 "_law_row_fits" = true) (k27 : PySem.W.keepIn K (.ref f27) = true)
    (a28 : PySem.W.nsIn K mainGlobals "_law_machine_fits" = some (some (.ref f28))) (l28 : K.lookup f28 = some ⟨oc28, od28, .func (PySem.W.fnOf "_law_machine_fits" "_law_machine_fits" (defArgs s_law_machine_fits) (defBody s_law_machine_fits) (defScope s_law_machine_fits) .none kV28 dc28 pm28 an28 cd28 ct28), sl28⟩) (c28 : PySem.W.codeIn K cd28 "_law_machine_fits" = true) (k28 : PySem.W.keepIn K (.ref f28) = true)
    (a29 : PySem.W.nsIn K mainGlobals "_law_step_text" = some (some (.ref f29))) (l29 : K.lookup f29 = some ⟨oc29, od29, .func (PySem.W.fnOf "_law_step_text" "_law_step_text" (defArgs s_law_step_text) (defBody s_law_step_text) (defScope s_law_step_text) .none kV29 dc29 pm29 an29 cd29 ct29), sl29⟩) (c29 : PySem.W.codeIn K cd29 "_law_step_text" = true) (k29 : PySem.W.keepIn K (.ref f29) = true)
    (a30 : PySem.W.nsIn K mainGlobals "_law_machine_text" = some (some (.ref f30))) (l30 : K.lookup f30 = some ⟨oc30, od30, .func (PySem.W.fnOf "_law_machine_text" "_law_machine_text" (defArgs s_law_machine_text) (defBody s_law_machine_text) (defScope s_law_machine_text) .none kV30 dc30 pm30 an30 cd30 ct30), sl30⟩) (c30 : PySem.W.codeIn K cd30 "_law_machine_text" = true) (k30 : PySem.W.keepIn K (.ref f30) = true)
    (a31 : PySem.W.nsIn K mainGlobals "_law_digits" = some (some (.ref f31))) (l31 : K.lookup f31 = some ⟨oc31, od31, .func (PySem.W.fnOf "_law_digits" "_law_digits" (defArgs s_law_digits) (defBody s_law_digits) (defScope s_law_digits) .none kV31 dc31 pm31 an31 cd31 ct31), sl31⟩) (c31 : PySem.W.codeIn K cd31 "_law_digits" = true) (k31 : PySem.W.keepIn K (.ref f31) = true)
    (a32 : PySem.W.nsIn K mainGlobals "_law_read_step" = some (some (.ref f32))) (l32 : K.lookup f32 = some ⟨oc32, od32, .func (PySem.W.fnOf "_law_read_step" "_law_read_step" (defArgs s_law_read_step) (defBody s_law_read_step) (defScope s_law_read_step) .none kV32 dc32 pm32 an32 cd32 ct32), sl32⟩) (c32 : PySem.W.codeIn K cd32 "_law_read_step" = true) (k32 : PySem.W.keepIn K (.ref f32) = true)
    (a33 : PySem.W.nsIn K mainGlobals "_law_read_row" = some (some (.ref f33))) (l33 : K.lookup f33 = some ⟨oc33, od33, .func (PySem.W.fnOf "_law_read_row" "_law_read_row" (defArgs s_law_read_row) (defBody s_law_read_row) (defScope s_law_read_row) .none kV33 dc33 pm33 an33 cd33 ct33), sl33⟩) (c33 : PySem.W.codeIn K cd33 "_law_read_row" = true) (k33 : PySem.W.keepIn K (.ref f33) = true)
    (a34 : PySem.W.nsIn K mainGlobals "_law_read" = some (some (.ref f34))) (l34 : K.lookup f34 = some ⟨oc34, od34, .func (PySem.W.fnOf "_law_read" "_law_read" (defArgs s_law_read) (defBody s_law_read) (defScope s_law_read) .none kV34 dc34 pm34 an34 cd34 ct34), sl34⟩) (c34 : PySem.W.codeIn K cd34 "_law_read" = true) (k34 : PySem.W.keepIn K (.ref f34) = true)
    (a35 : PySem.W.nsIn K mainGlobals "_law_bent_row" = some (some (.ref f35))) (l35 : K.lookup f35 = some ⟨oc35, od35, .func (PySem.W.fnOf "_law_bent_row" "_law_bent_row" (defArgs s_law_bent_row) (defBody s_law_bent_row) (defScope s_law_bent_row) .none kV35 dc35 pm35 an35 cd35 ct35), sl35⟩) (c35 : PySem.W.codeIn K cd35 "_law_bent_row" = true) (k35 : PySem.W.keepIn K (.ref f35) = true)
    (a36 : PySem.W.nsIn K mainGlobals "_law_bent" = some (some (.ref f36))) (l36 : K.lookup f36 = some ⟨oc36, od36, .func (PySem.W.fnOf "_law_bent" "_law_bent" (defArgs s_law_bent) (defBody s_law_bent) (defScope s_law_bent) .none kV36 dc36 pm36 an36 cd36 ct36), sl36⟩) (c36 : PySem.W.codeIn K cd36 "_law_bent" = true) (k36 : PySem.W.keepIn K (.ref f36) = true)
    (a37 : PySem.W.nsIn K mainGlobals "_law_right" = some (some (.ref f37))) (l37 : K.lookup f37 = some ⟨oc37, od37, .func (PySem.W.fnOf "_law_right" "_law_right" (defArgs s_law_right) (defBody s_law_right) (defScope s_law_right) .none kV37 dc37 pm37 an37 cd37 ct37), sl37⟩) (c37 : PySem.W.codeIn K cd37 "_law_right" = true) (k37 : PySem.W.keepIn K (.ref f37) = true)
    (a38 : PySem.W.nsIn K mainGlobals "law" = some (some (.ref f38))) (l38 : K.lookup f38 = some ⟨oc38, od38, .func (PySem.W.fnOf "law" "law" (defArgs s_law) (defBody s_law) (defScope s_law) .none kV38 dc38 pm38 an38 cd38 ct38), sl38⟩) (c38 : PySem.W.codeIn K cd38 "law" = true) (k38 : PySem.W.keepIn K (.ref f38) = true)
    (m_DIGITS : PySem.W.nsIn K mainGlobals "DIGITS" = some (some (.str "0123456789" t_DIGITS)))
    (m1 : PySem.W.nsIn K mainGlobals "MOST_LETTERS" = some (some (.int 8 t1))) (m2 : PySem.W.nsIn K mainGlobals "MOST_STATES" = some (some (.int 30 t2))) (m3 : PySem.W.nsIn K mainGlobals "MOST_BITS" = some (some (.int 60 t3)))
    (p_NoMachine : PySem.W.nsIn K mainGlobals "NoMachine" = some (some (.ref C_NoMachine))) (x_NoMachine : PySem.W.excIn K C_NoMachine [.type "ValueError", .type "Exception", .type "BaseException", .type "object"] "ValueError.__new__" = true) (k_NoMachine : PySem.W.keepIn K (.ref C_NoMachine) = true) (b_NoMachine : PySem.W.subIn K (.ref C_NoMachine) (.type "BaseException") = some true) (t_NoMachine : PySem.W.typeIn K (.ref C_NoMachine) = some (.type "type")) (i_NoMachine : PySem.W.isClsIn K C_NoMachine = true) (s_NoMachine : PySem.W.subIn K (.ref C_NoMachine) (.ref C_NoMachine) = some true)
    (e7 : PySem.W.nsIn K mainGlobals "LengthError" = some (some (.ref L0)))
    (z0 : PySem.W.nsIn K mainGlobals "len" = some none) (z1 : PySem.W.nsIn K mainGlobals "isinstance" = some none) (z2 : PySem.W.nsIn K mainGlobals "int" = some none) (z3 : PySem.W.nsIn K mainGlobals "bool" = some none) (z4 : PySem.W.nsIn K mainGlobals "str" = some none) (z5 : PySem.W.nsIn K mainGlobals "tuple" = some none) (z6 : PySem.W.nsIn K mainGlobals "list" = some none) (z7 : PySem.W.nsIn K mainGlobals "range" = some none) (z8 : PySem.W.nsIn K mainGlobals "all" = some none) (z9 : PySem.W.nsIn K mainGlobals "sum" = some none) (z10 : PySem.W.nsIn K mainGlobals "repr" = some none) (z11 : PySem.W.nsIn K mainGlobals "enumerate" = some none) (z12 : PySem.W.nsIn K mainGlobals "sorted" = some none) (z13 : PySem.W.nsIn K mainGlobals "any" = some none) (z14 : PySem.W.nsIn K mainGlobals "set" = some none) : Facts K mg fa := by
  have e := hfa.symm.trans (PySem.W.mg_of X G a38)
  cases e
  have F := fun_mk (st := s_law) l38 c38 k38
  exact ⟨⟨PySem.W.mg_none_of X G z0, PySem.W.mg_none_of X G z1, PySem.W.mg_none_of X G z2, PySem.W.mg_none_of X G z3, PySem.W.mg_none_of X G z4, PySem.W.mg_none_of X G z5, PySem.W.mg_none_of X G z6, PySem.W.mg_none_of X G z7, PySem.W.mg_none_of X G z8, PySem.W.mg_none_of X G z9, PySem.W.mg_none_of X G z10, PySem.W.mg_none_of X G z11, PySem.W.mg_none_of X G z12, PySem.W.mg_none_of X G z13, PySem.W.mg_none_of X G z14⟩, ⟨_, _, _, PySem.W.mg_of X G m1, PySem.W.mg_of X G m2, PySem.W.mg_of X G m3⟩, ⟨C_NoMachine, ⟨PySem.W.mg_of X G p_NoMachine, x_NoMachine, k_NoMachine, b_NoMachine, t_NoMachine, caught b_NoMachine i_NoMachine t_NoMachine s_NoMachine⟩, ⟨_, PySem.W.mg_of X G e7⟩⟩,
    ⟨_, PySem.W.mg_of X G m_DIGITS⟩,
    def_mk X G a0 l0 c0 k0 (fun _ _ _ _ _ _ us hl => match us, hl with | [_], _ => rfl),
    def_mk X G a1 l1 c1 k1 (fun _ _ _ _ _ _ us hl => match us, hl with | [_, _, _], _ => rfl),
    def_mk X G a2 l2 c2 k2 (fun _ _ _ _ _ _ us hl => match us, hl with | [_], _ => rfl),
    def_mk X G a3 l3 c3 k3 (fun _ _ _ _ _ _ us hl => match us, hl with | [_], _ => rfl),
    def_mk X G a4 l4 c4 k4 (fun _ _ _ _ _ _ us hl => match us, hl with | [_], _ => rfl),
    def_mk X G a5 l5 c5 k5 (fun _ _ _ _ _ _ us hl => match us, hl with | [_], _ => rfl),
    def_mk X G a6 l6 c6 k6 (fun _ _ _ _ _ _ us hl => match us, hl with | [_, _, _], _ => rfl),
    def_mk X G a7 l7 c7 k7 (fun _ _ _ _ _ _ us hl => match us, hl with | [_, _], _ => rfl),
    def_mk X G a8 l8 c8 k8 (fun _ _ _ _ _ _ us hl => match us, hl with | [_], _ => rfl),
    def_mk X G a9 l9 c9 k9 (fun _ _ _ _ _ _ us hl => match us, hl with | [_], _ => rfl),
    def_mk X G a10 l10 c10 k10 (fun _ _ _ _ _ _ us hl => match us, hl with | [_], _ => rfl),
    def_mk X G a11 l11 c11 k11 (fun _ _ _ _ _ _ us hl => match us, hl with | [_], _ => rfl),
    def_mk X G a12 l12 c12 k12 (fun _ _ _ _ _ _ us hl => match us, hl with | [_], _ => rfl),
    def_mk X G a13 l13 c13 k13 (fun _ _ _ _ _ _ us hl => match us, hl with | [_], _ => rfl),
    def_mk X G a14 l14 c14 k14 (fun _ _ _ _ _ _ us hl => match us, hl with | [_], _ => rfl),
    def_mk X G a15 l15 c15 k15 (fun _ _ _ _ _ _ us hl => match us, hl with | [_], _ => rfl),
    def_mk X G a16 l16 c16 k16 (fun _ _ _ _ _ _ us hl => match us, hl with | [_], _ => rfl),
    def_mk X G a17 l17 c17 k17 (fun _ _ _ _ _ _ us hl => match us, hl with | [_], _ => rfl),
    def_mk X G a18 l18 c18 k18 (fun _ _ _ _ _ _ us hl => match us, hl with | [_, _], _ => rfl),
    def_mk X G a19 l19 c19 k19 (fun _ _ _ _ _ _ us hl => match us, hl with | [_, _], _ => rfl),
    def_mk X G a20 l20 c20 k20 (fun _ _ _ _ _ _ us hl => match us, hl with | [_], _ => rfl),
    def_mk X G a21 l21 c21 k21 (fun _ _ _ _ _ _ us hl => match us, hl with | [_, _, _], _ => rfl),
    def_mk X G a22 l22 c22 k22 (fun _ _ _ _ _ _ us hl => match us, hl with | [_, _], _ => rfl),
    def_mk X G a23 l23 c23 k23 (fun _ _ _ _ _ _ us hl => match us, hl with | [_], _ => rfl),
    def_mk X G a24 l24 c24 k24 (fun _ _ _ _ _ _ us hl => match us, hl with | [_, _, _], _ => rfl),
    def_mk X G a25 l25 c25 k25 (fun _ _ _ _ _ _ us hl => match us, hl with | [_, _], _ => rfl),
    def_mk X G a26 l26 c26 k26 (fun _ _ _ _ _ _ us hl => match us, hl with | [_, _], _ => rfl),
    def_mk X G a27 l27 c27 k27 (fun _ _ _ _ _ _ us hl => match us, hl with | [_, _, _], _ => rfl),
    def_mk X G a28 l28 c28 k28 (fun _ _ _ _ _ _ us hl => match us, hl with | [_], _ => rfl),
    def_mk X G a29 l29 c29 k29 (fun _ _ _ _ _ _ us hl => match us, hl with | [_], _ => rfl),
    def_mk X G a30 l30 c30 k30 (fun _ _ _ _ _ _ us hl => match us, hl with | [_], _ => rfl),
    def_mk X G a31 l31 c31 k31 (fun _ _ _ _ _ _ us hl => match us, hl with | [_], _ => rfl),
    def_mk X G a32 l32 c32 k32 (fun _ _ _ _ _ _ us hl => match us, hl with | [_], _ => rfl),
    def_mk X G a33 l33 c33 k33 (fun _ _ _ _ _ _ us hl => match us, hl with | [_], _ => rfl),
    def_mk X G a34 l34 c34 k34 (fun _ _ _ _ _ _ us hl => match us, hl with | [_], _ => rfl),
    def_mk X G a35 l35 c35 k35 (fun _ _ _ _ _ _ us hl => match us, hl with | [_, _], _ => rfl),
    def_mk X G a36 l36 c36 k36 (fun _ _ _ _ _ _ us hl => match us, hl with | [_, _], _ => rfl),
    def_mk X G a37 l37 c37 k37 (fun _ _ _ _ _ _ us hl => match us, hl with | [_], _ => rfl),
    ⟨_, F, F.binds fun _ _ _ _ _ _ us hl => match us, hl with | [_], _ => rfl⟩⟩
end KL
end
open PySem PySem.W PyProof.Rows
set_option maxRecDepth 100000 in
set_option maxHeartbeats 0 in
theorem PySem.Challenge.cw_keptlengths_k07_whole_texts_read_as_mach_holds : PySem.Challenge.rw_keptlengths_k07_whole_texts_read_as_mach.Holds := by
  w_on; o_law; k_head; (case hw => w_witness2)
  k_fill

  refine KL.walk_one (l := PySem.Challenge.rw_keptlengths_k07_whole_texts_read_as_mach) rfl rfl (by decide +kernel) (fun w h Y => PySem.W.kIn_of Y) ?F
  case F =>
    intro w mg fa h KX G hmg
    refine KL.Facts.run ?_
    refine' KL.facts_mk KX G hmg ?a0 ?l0 ?c0 ?k0 ?a1 ?l1 ?c1 ?k1 ?a2 ?l2 ?c2 ?k2 ?a3 ?l3 ?c3 ?k3 ?a4 ?l4 ?c4 ?k4 ?a5 ?l5 ?c5 ?k5 ?a6 ?l6 ?c6 ?k6 ?a7 ?l7 ?c7 ?k7 ?a8 ?l8 ?c8 ?k8 ?a9 ?l9 ?c9 ?k9 ?a10 ?l10 ?c10 ?k10 ?a11 ?l11 ?c11 ?k11 ?a12 ?l12 ?c12 ?k12 ?a13 ?l13 ?c13 ?k13 ?a14 ?l14 ?c14 ?k14 ?a15 ?l15 ?c15 ?k15 ?a16 ?l16 ?c16 ?k16 ?a17 ?l17 ?c17 ?k17 ?a18 ?l18 ?c18 ?k18 ?a19 ?l19 ?c19 ?k19 ?a20 ?l20 ?c20 ?k20 ?a21 ?l21 ?c21 ?k21 ?a22 ?l22 ?c22 ?k22 ?a23 ?l23 ?c23 ?k23 ?a24 ?l24 ?c24 ?k24 ?a25 ?l25 ?c25 ?k25 ?a26 ?l26 ?c26 ?k26 ?a27 ?l27 ?c27 ?k27 ?a28 ?l28 ?c28 ?k28 ?a29 ?l29 ?c29 ?k29 ?a30 ?l30 ?c30 ?k30 ?a31 ?l31 ?c31 ?k31 ?a32 ?l32 ?c32 ?k32 ?a33 ?l33 ?c33 ?k33 ?a34 ?l34 ?c34 ?k34 ?a35 ?l35 ?c35 ?k35 ?a36 ?l36 ?c36 ?k36 ?a37 ?l37 ?c37 ?k37 ?a38 ?l38 ?c38 ?k38 ?m_DIGITS ?m1 ?m2 ?m3 ?p_NoMachine ?x_NoMachine ?k_NoMachine ?b_NoMachine ?t_NoMachine ?i_NoMachine ?s_NoMachine ?e7 ?z0 ?z1 ?z2 ?z3 ?z4 ?z5 ?z6 ?z7 ?z8 ?z9 ?z10 ?z11 ?z12 ?z13 ?z14
    (case a0 => k_is)
    (case l0 => k_is)
    (case c0 => k_is)
    (case k0 => k_is)
    (case a1 => k_is)
    (case l1 => k_is)
    (case c1 => k_is)
    (case k1 => k_is)
    (case a2 => k_is)
    (case l2 => k_is)
    (case c2 => k_is)
    (case k2 => k_is)
    (case a3 => k_is)
    (case l3 => k_is)
    (case c3 => k_is)
    (case k3 => k_is)
    (case a4 => k_is)
    (case l4 => k_is)
    (case c4 => k_is)
    (case k4 => k_is)
    (case a5 => k_is)
    (case l5 => k_is)
    (case c5 => k_is)
    (case k5 => k_is)
    (case a6 => k_is)
    (case l6 => k_is)
    (case c6 => k_is)
    (case k6 => k_is)
    (case a7 => k_is)
    (case l7 => k_is)
    (case c7 => k_is)
    (case k7 => k_is)
    (case a8 => k_is)
    (case l8 => k_is)
    (case c8 => k_is)
    (case k8 => k_is)
    (case a9 => k_is)
    (case l9 => k_is)
    (case c9 => k_is)
    (case k9 => k_is)
    (case a10 => k_is)
    (case l10 => k_is)
    (case c10 => k_is)
    (case k10 => k_is)
    (case a11 => k_is)
    (case l11 => k_is)
    (case c11 => k_is)
    (case k11 => k_is)
    (case a12 => k_is)
    (case l12 => k_is)
    (case c12 => k_is)
    (case k12 => k_is)
    (case a13 => k_is)
    (case l13 => k_is)
    (case c13 => k_is)
    (case k13 => k_is)
    (case a14 => k_is)
    (case l14 => k_is)
    (case c14 => k_is)
    (case k14 => k_is)
    (case a15 => k_is)
    (case l15 => k_is)
    (case c15 => k_is)
    (case k15 => k_is)
    (case a16 => k_is)
    (case l16 => k_is)
    (case c16 => k_is)
    (case k16 => k_is)
    (case a17 => k_is)
    (case l17 => k_is)
    (case c17 => k_is)
    (case k17 => k_is)
    (case a18 => k_is)
    (case l18 => k_is)
    (case c18 => k_is)
    (case k18 => k_is)
    (case a19 => k_is)
    (case l19 => k_is)
    (case c19 => k_is)
    (case k19 => k_is)
    (case a20 => k_is)
    (case l20 => k_is)
    (case c20 => k_is)
    (case k20 => k_is)
    (case a21 => k_is)
    (case l21 => k_is)
    (case c21 => k_is)
    (case k21 => k_is)
    (case a22 => k_is)
    (case l22 => k_is)
    (case c22 => k_is)
    (case k22 => k_is)
    (case a23 => k_is)
    (case l23 => k_is)
    (case c23 => k_is)
    (case k23 => k_is)
    (case a24 => k_is)
    (case l24 => k_is)
    (case c24 => k_is)
    (case k24 => k_is)
    (case a25 => k_is)
    (case l25 => k_is)
    (case c25 => k_is)
    (case k25 => k_is)
    (case a26 => k_is)
    (case l26 => k_is)
    (case c26 => k_is)
    (case k26 => k_is)
    (case a27 => k_is)
    (case l27 => k_is)
    (case c27 => k_is)
    (case k27 => k_is)
    (case a28 => k_is)
    (case l28 => k_is)
    (case c28 => k_is)
    (case k28 => k_is)
    (case a29 => k_is)
    (case l29 => k_is)
    (case c29 => k_is)
    (case k29 => k_is)
    (case a30 => k_is)
    (case l30 => k_is)
    (case c30 => k_is)
    (case k30 => k_is)
    (case a31 => k_is)
    (case l31 => k_is)
    (case c31 => k_is)
    (case k31 => k_is)
    (case a32 => k_is)
    (case l32 => k_is)
    (case c32 => k_is)
    (case k32 => k_is)
    (case a33 => k_is)
    (case l33 => k_is)
    (case c33 => k_is)
    (case k33 => k_is)
    (case a34 => k_is)
    (case l34 => k_is)
    (case c34 => k_is)
    (case k34 => k_is)
    (case a35 => k_is)
    (case l35 => k_is)
    (case c35 => k_is)
    (case k35 => k_is)
    (case a36 => k_is)
    (case l36 => k_is)
    (case c36 => k_is)
    (case k36 => k_is)
    (case a37 => k_is)
    (case l37 => k_is)
    (case c37 => k_is)
    (case k37 => k_is)
    (case a38 => k_is)
    (case l38 => k_is)
    (case c38 => k_is)
    (case k38 => k_is)
    (case m_DIGITS => k_is)
    (case m1 => k_is)
    (case m2 => k_is)
    (case m3 => k_is)
    (case p_NoMachine => k_is)
    (case x_NoMachine => k_exc)
    (case k_NoMachine => k_is)
    (case b_NoMachine => k_is)
    (case t_NoMachine => k_is)
    (case i_NoMachine => k_is)
    (case s_NoMachine => first | rfl | k_is)
    (case e7 => k_is)
    (case z0 => k_is)
    (case z1 => k_is)
    (case z2 => k_is)
    (case z3 => k_is)
    (case z4 => k_is)
    (case z5 => k_is)
    (case z6 => k_is)
    (case z7 => k_is)
    (case z8 => k_is)
    (case z9 => k_is)
    (case z10 => k_is)
    (case z11 => k_is)
    (case z12 => k_is)
    (case z13 => k_is)
    (case z14 => k_is)
