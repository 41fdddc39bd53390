import PyProof.Rows.All
import Wide.All
import OpenK.AllK
import Wide.FinOn
import HandS.Base
import HandS.Call
import HandS.List
import HandS.Comp
import HandS.Ends
import HandS.Dict
import HandS.Iter
import HandS.Text
import HandS.Words
import KE.GoesNew
import HandS.Rev
import PyProof.JoinWalk
import KE.SortData
import HandS.Evl
import HandS.Walk
import HandS.IsInst
import HandS.ForMost
import HandS.Set
import HandS.Strs
import HandS.TupAny
import HandS.TupMul
import HandS.Style
import HandS.SetKeys
import HandS.WordsDict
import HandS.WideBits
import HandS.AnyAll
import HandS.GenOver
import HandS.GenList
import HandS.EndTab
import HandS.Conv
import PyProof.CollectStr
import HandS.Zip
import HandS.SetFor
import KE.KDictPairs
import PyProof.EnumMake
import HandS.SortKw
import HandS.FStr
import KE.GoesEnumKw
import KE.KDictList
import KE.GoesMore
import KE.GoesEnum
import PyProof.StrLawsTight
import KE.KSortTupAny
import HandS.SortRule
import PyProof.AutoSeq1
import HandS.SetBool
import PyProof.SetRoads
import HandS.ClsMeth
import HandS.ExcInit
import HandS.ExcField
import HandS.ExcIs
import HandS.ExcValue
import HandS.ExcOwn
import HandS.WordsExc
import HandS.Defaults
import HandS.CallLocal
import HandS.Deep
import HandS.HotCalls
import HandS.TryMany
import KE.KExcIs
import KE.KStrOpen
import PySem.Challenge.RW_hidhalves_k13_trees_refused
set_option Elab.async false
set_option linter.all false
set_option maxRecDepth 100000
set_option maxHeartbeats 4000000
namespace Hid
open PySem PySem.Spec PyProof.Rows L2
/-- two texts side by side: the signs in new pairs -/
def ZsIt (x y : Str) : It :=
  ⟨fun i _ => i < min x.cps.size y.cps.size,
    fun i G v G' => ∃ T c d, v = .ref T ∧ G T = none ∧ G' = upd G T (.tup [.str ⟨#[c]⟩, .str ⟨#[d]⟩]) ∧ x.cps[i]? = some c ∧ y.cps[i]? = some d,
    fun i _ => min x.cps.size y.cps.size ≤ i⟩
/-- where the walk of two texts stands -/
def ZsAt (z TI TO i1 i2 : Addr) (x y : Str) (t u : Tok) (i : Nat) (h : Heap) : Prop :=
  i ≤ min x.cps.size y.cps.size ∧ IsZip h z TI TO .none ∧ IsTupOf2 h TI (.ref i1) (.ref i2) ∧ (∃ a1 a2, IsTupOf2 h TO a1 a2) ∧ h.IsStrIter i1 (strIterType x) x t i ∧ h.IsStrIter i2 (strIterType y) y u i
theorem zs_turn {P : Program} {w : World} {K : PySem.W.Frag} {es : List Expr} {kk : Nat} {tp : Pos} {z TI TO i1 i2 : Addr} {x y : Str} {t u : Tok} (S : ZipSep2 z TI TO i1 i2 [i1] [i2]) :
    Turn P w K (.Tuple es kk tp) (ZsIt x y) (z :: TI :: TO :: ([i1] ++ [i2])) z (ZsAt z TI TO i1 i2 x y t u) where
  mem := List.mem_cons_self
  obj := fun i h st b hb => by
    obtain ⟨_, hz, hTI, ⟨p, q, hTO⟩, ⟨o1, e1, _, d1⟩, ⟨o2, e2, _, d2⟩⟩ := st
    have e' : b = z ∨ b = TI ∨ b = TO ∨ b = i1 ∨ b = i2 := by simpa using hb
    rcases e' with r | r | r | r | r <;> rw [r]
    · exact ⟨_, hz, fun v n => nomatch n⟩
    · exact ⟨_, hTI, fun v n => nomatch n⟩
    · exact ⟨_, hTO, fun v n => nomatch n⟩
    · exact ⟨o1, e1, fun v n => by rw [d1] at n; cases n⟩
    · exact ⟨o2, e2, fun v n => by rw [d2] at n; cases n⟩
  keep := fun i h h' st k => by
    obtain ⟨hi, hz, hTI, ⟨p, q, hTO⟩, ⟨o1, e1, r1⟩, ⟨o2, e2, r2⟩⟩ := st
    exact ⟨hi, k z (by simp) _ hz, k TI (by simp) _ hTI, ⟨p, q, k TO (by simp) _ hTO⟩, ⟨o1, k i1 (by simp) _ e1, r1⟩, ⟨o2, k i2 (by simp) _ e2, r2⟩⟩
  item := by
    intro X hP hw hK hc i pins s σ H E I hf st hg
    subst hP hw hK
    have hh := I.ok.hd hc
    have G := GoesN.zip2 (prog := X.prog) (w := X.w) (A := X.A) (elts := es) (x1 := kk) (pos := tp) S (Draws.text (A := X.A.in1) hh i1 x t) (Draws.text (A := X.A.in1) hh i2 y u)
    obtain ⟨hi, st⟩ := st
    refine wpAny_mono (G.goes i s (fun v s2 => ∃ xv H', Inv X pins σ H' s2 ∧ RelV xv v ∧ (ZsIt x y).yld i H xv H' ∧ ZsAt z TI TO i1 i2 x y t u (i + 1) s2.heap ∧ ∀ b ∈ z :: TI :: TO :: ([i1] ++ [i2]), H' b = none) E hg st fun v h' tk hY st' hk htk => ?_) (fun r s1 h1 => ?_) fun _ _ e => e
    · obtain ⟨T, v1, v2, rfl, hT, ⟨c, u1, hc1, rfl⟩, ⟨d, u2, hd1, rfl⟩, o, ho, ho1, n, ho2⟩ := hY
      have new : ObjOk X.prog X.w (upd H T (.tup [.str ⟨#[c]⟩, .str ⟨#[d]⟩])) h' T (.tup [.str ⟨#[c]⟩, .str ⟨#[d]⟩]) :=
        ⟨by show 2 ≤ sizeLine; decide, [_, _], .cons ⟨u1, rfl⟩ (.cons ⟨u2, rfl⟩ .nil), ⟨o, ho, ho1, n, ho2⟩⟩
      have J : Inv X pins σ (upd H T (.tup [.str ⟨#[c]⟩, .str ⟨#[d]⟩])) { s with heap := h', toks := tk } :=
        I.turnedNew (t' := tk) (ch := [z, TO, i1, i2]) hk (fun b hb => hf b (by simp at hb ⊢; rcases hb with q | q | q | q <;> simp [q])) hT new
      refine ⟨.ref T, _, J, rfl, ⟨T, c, d, rfl, I.hok.fresh hT, rfl, hc1, hd1⟩, ⟨hg, st'⟩, fun b hb => ?_⟩
      have hb1 : b < s.heap.objs.size := by
        obtain ⟨hz, hTI, ⟨p, q, hTO⟩, ⟨o1, e1, r1⟩, ⟨o2, e2, r2⟩⟩ := st
        have e' : b = z ∨ b = TI ∨ b = TO ∨ b = i1 ∨ b = i2 := by simpa using hb
        rcases e' with r | r | r | r | r <;> rw [r]
        · exact Heap.lt_size hz
        · exact Heap.lt_size hTI
        · exact Heap.lt_size hTO
        · exact Heap.lt_size e1
        · exact Heap.lt_size e2
      rw [upd_ne (Nat.ne_of_lt (Nat.lt_of_lt_of_le hb1 hT))]
      exact (hf b hb).1
    · obtain ⟨v, rfl, q⟩ := h1
      exact ⟨v, rfl, q⟩
  done := by
    intro X hP hw hK hc i pins s σ H E I hf st hg
    subst hP hw hK
    have hh := I.ok.hd hc
    have G := GoesN.zip2 (prog := X.prog) (w := X.w) (A := X.A) (elts := es) (x1 := kk) (pos := tp) S (Draws.text (A := X.A.in1) hh i1 x t) (Draws.text (A := X.A.in1) hh i2 y u)
    obtain ⟨hi, st⟩ := st
    have ei : i = min x.cps.size y.cps.size := Nat.le_antisymm hi hg
    subst ei
    exact G.stops s (fun s1 => Inv X pins σ H s1) E st fun h' tk hk htk => I.turnedL (t' := tk) (ch := [z, TO, i1, i2]) hk (fun b hb => hf b (by simp at hb ⊢; rcases hb with q | q | q | q <;> simp [q]))
  self := fun A i s Q E st h => wpAny_pyIter_zip st.2.1 h
def iZs (ta : TA) : TI := fun σ H R => ta σ H fun vs H1 => ∃ x y, vs = [.str x, .str y] ∧ R (ZsIt x y) H1
/-- zip(x, y) of two texts -/
theorem pi_zs {X : Cx} {e e2 : Expr} {ta : TA} {p pos tp : Pos} {es : List Expr} {kk : Nat} (hg : Gl X "zip") (hm : X.mg "zip" = none) (ha : PA X [e, e2] ta)
    (hs : starEach [e, e2] X.env = (false, eval e X.env) :: starEach [e2] X.env := by rfl) (hpl : (backTo pos (starEach [e2] X.env)).any (·.1) = false := by rfl) :
    PI X (.Tuple es kk tp) (.Call (.Name "zip" p) [e, e2] [] pos) (iZs ta) := by
  refine ⟨fun pins s σ H R I h => ?_⟩
  refine Call_ (ld_blt I hg hm boot_zip (callWith_type1 (thn (ha.run pos pins s σ H _ I h) fun us s1 ⟨vs, H1, I1, r1, x, y, ex, q⟩ => ?_) hs hpl))
  subst ex
  cases r1 with
  | cons r rr =>
    cases rr with
    | cons r' rr =>
      cases rr
      obtain ⟨t, rfl⟩ := r
      obtain ⟨u, rfl⟩ := r'
      refine zip_begins2 (begins_text x t) (begins_text y u) trivial trivial fun h' hz hTI hTO g1 g2 hsz hk => wpAny_pyIter_zip hz ?_
      refine ⟨s1.heap.objs.size + 4, _, _, _, H1, rfl, I1.kept (t' := s1.toks) hk, zs_turn (zip_sep2 (fp1 := []) (fp2 := []) (fun b n => nomatch n) (fun b n => nomatch n)),
        ⟨Nat.zero_le _, hz, hTI, ⟨_, _, hTO⟩, ⟨_, g1, rfl, rfl⟩, ⟨_, g2, rfl, rfl⟩⟩, fun c hcm => ?_, q⟩
      have e' : c = s1.heap.objs.size + 4 ∨ c = s1.heap.objs.size + 2 ∨ c = s1.heap.objs.size + 3 ∨ c = s1.heap.objs.size ∨ c = s1.heap.objs.size + 1 := by simpa using hcm
      have hle : s1.heap.objs.size ≤ c := by
        rcases e' with r | r | r | r | r <;> rw [r] <;> first | exact Nat.le_refl _ | exact Nat.le_add_right _ _
      exact I1.fpOk hle (I1.hok.fresh hle)
/-- a loop over two texts side by side -/
theorem for_zs {x y : Str} {g : TG} {tb : TS} {D : Ends} {σ : L2.St} {H : Hp} {n : Nat} (hn : n = min x.cps.size y.cps.size) (Pv : Nat → L2.St → Hp → Prop) (h0 : Pv 0 σ H)
    (hs : ∀ (i c d : Nat) (T : Addr) (σ : L2.St) (H : Hp), i < n → x.cps[i]? = some c → y.cps[i]? = some d → H T = none → Pv i σ H →
      g (.ref T) σ (upd H T (.tup [.str ⟨#[c]⟩, .str ⟨#[d]⟩])) fun σ2 H2 => tb { D with nx := Pv (i + 1), ct := Pv (i + 1), bk := D.nx } σ2 H2) (hd : ∀ σ H, Pv n σ H → D.nx σ H) :
    ∃ W : Nat → Nat → L2.St → Hp → Prop, (∃ m, W 0 m σ H) ∧ ∀ i m σ H, W i m σ H →
      ((ZsIt x y).stop i H ∧ D.nx σ H) ∨ ((ZsIt x y).go i H ∧ ∃ N : L2.St → Hp → Prop, (∀ σ' H', N σ' H' → ∃ m', m' < m ∧ W (i + 1) m' σ' H') ∧ ∀ v H', (ZsIt x y).yld i H v H' → g v σ H' fun σ2 H2 => tb { D with nx := N, ct := N, bk := D.nx } σ2 H2) := by
  subst hn
  refine ⟨fun i m σ H => m = min x.cps.size y.cps.size - i ∧ i ≤ min x.cps.size y.cps.size ∧ Pv i σ H, ⟨_, rfl, Nat.zero_le _, h0⟩, ?_⟩
  rintro i m σ H ⟨rfl, hi, p⟩
  by_cases hlt : i < min x.cps.size y.cps.size
  · refine .inr ⟨hlt, Pv (i + 1), fun σ' H' p' => ⟨_, by omega, rfl, hlt, p'⟩, fun v H' r => ?_⟩
    obtain ⟨T, c, d, rfl, hT, rfl, hc, hd'⟩ := r
    exact hs i c d T σ H hlt hc hd' hT p
  · have e : i = min x.cps.size y.cps.size := by omega
    subst e
    exact .inl ⟨Nat.le_refl _, hd σ H p⟩
end Hid

namespace Hid
open PySem PySem.Spec PyProof.Rows L2
theorem str_norev : typeLookup (.type "str") "__reversed__" = pure none := by rw [typeLookup_type, builtinLookup_eq_fast]; kernel_rfl
theorem str_getit : typeLookup (.type "str") "__getitem__" = pure (some (.builtin "str.__getitem__")) := by rw [typeLookup_type, builtinLookup_eq_fast]; kernel_rfl
abbrev rsObj (x : Str) (t : Tok) (i : Int) : Obj := { cls := .type "reversed", data := .fields #[.str x t, rawInt i] }
/-- reversed(x) of a text, the next place i -/
def IsRs (h : Heap) (a : Addr) (x : Str) (t : Tok) (i : Int) : Prop := ∃ o, h.get? a = some o ∧ o.cls = .type "reversed" ∧ o.data = .fields #[.str x t, rawInt i]
section
variable {prog : Program} {w : World} {A : Around} {E : Value → Shared → Prop} {s : Shared}
theorem IsRs.kind {a : Addr} {x : Str} {t : Tok} {i : Int} (q : IsRs s.heap a x t i) : s.TypeIs (.ref a) "reversed" := let ⟨o, ho, hc, _⟩ := q; ⟨o, ho, hc⟩
theorem rs_code {x : Str} {t : Tok} {Q₁ : Value → Shared → Prop} (hx : x.length ≤ sizeLine)
    (h : Q₁ (.ref s.heap.objs.size) { s with heap := s.heap.push (rsObj x t ((x.length : Int) - 1)), toks := s.toks + 1 + 1 }) :
    codeAny (model prog w) A (.call (.builtin "reversed.__new__") ⟨[.type "reversed", .str x t], []⟩) (wants Q₁ E) s := by
  have kx := typeIs_str s x t
  refine codeAny_of_tree ?_
  show wpAny _ A.in1 (do checkBuiltinCall "reversed.__new__" ⟨[.type "reversed", .str x t], []⟩; again (.builtin "reversed.__new__" ⟨[.type "reversed", .str x t], []⟩)) _ _ s
  refine wpAny_bind (wpAny_of_eq (F.newCall_reversed_1 _) (wpAny_pure ⟨plainId_quiet F.plain_reversed_new _, codeAny_builtin F.entry_reversed_new ?_⟩))
  rw [Around.under_plainId F.plain_reversed_new _] <;> unfold Builtin.«reversed.__new__»
  refine wpAny_bind (wpAny_of_eq (newClass_reversed _) ?_) <;> try dsimp only
  refine wpAny_bind (wpAny_of_eq (a := ()) (by first | rfl | kernel_rfl) ?_) <;> try dsimp only
  refine wpAny_bind (wpAny_of_eq (a := ()) (by first | rfl | kernel_rfl) ?_) <;> try dsimp only
  refine wpAny_bind (wpAny_specialOf kx str_norev ?_) <;> try dsimp only
  refine wpAny_bind ?_ <;> wp_delta
  refine wpAny_bind (wpAny_isInstance (T := "str") (U := "dict") (b := false) kx PySem.F.sub_str_dict ?_)
  try dsimp only
  try rw [if_neg Bool.false_ne_true]
  try dsimp only
  refine wpAny_bind (wpAny_specialOf kx str_getit ?_)
  try dsimp only
  try rw [if_pos (by decide +kernel)]
  refine wpAny_pure ?_
  try dsimp only
  try rw [if_neg (by decide)]
  try dsimp only
  have hn := line63
  refine wpAny_bind (PySem.P.len_str (by omega) ?_)
  refine wpAny_bind (wpAny_of_eq (a := some ((x.length : Nat) : Int)) rfl ?_) <;> try dsimp only
  refine wpAny_bind ?_
  show wpAny _ _ (newObj (.type "reversed") (.fields #[.str x t, rawInt ((x.length : Int) - 1)])) _ _ _
  refine wpAny_newObj_type ?_
  exact wpAny_pure h
theorem rs_call {x : Str} {t : Tok} {Q : Value → Shared → Prop} (hx : x.length ≤ sizeLine)
    (h : Q (.ref s.heap.objs.size) { s with heap := s.heap.push (rsObj x t ((x.length : Int) - 1)), toks := s.toks + 1 + 1 }) : wpAny (model prog w) A (call (.type "reversed") [.str x t]) Q E s := by
  refine callType_codes (Q₁ := fun obj s₁ => s₁.TypeIs obj "reversed" ∧ Q obj s₁) RT.called_rt (F.typeCall_reversed_1 _) F.entry_object_init
    (rs_code (A := A.in1) hx ⟨⟨_, Heap.get?_push_size _ rfl, rfl⟩, h⟩) fun obj s₁ g => ?_
  exact ⟨g.1, F.args_object_init_2 obj _, object_init_meets RT.called_rt.init.lookup RT.called_rt.made (by decide) prog w A.in1 _ s₁ ⟨g.1, rfl, g.2⟩⟩
theorem rs_next {it : Addr} {i c : Nat} {x : Str} {t : Tok} {Q : Option Value → Shared → Prop} (hit : IsRs s.heap it x t (i : Int)) (hx : x.cps[i]? = some c) (hsz : x.length ≤ sizeLine)
    (hQ : ∀ h' u k, IsRs h' it x t ((i : Int) - 1) → Heap.SameBut it s.heap h' → Q (some (.str ⟨#[c]⟩ u)) { s with heap := h', toks := k }) : wpAny (model prog w) A (pyNext (.ref it)) Q E s := by
  obtain ⟨o, ho, hc, hd⟩ := id hit
  have hi : i < x.cps.size := (Array.getElem?_eq_some_iff.mp hx).1
  have kx := typeIs_str s x t
  have hn := line63
  have hl : x.length = x.cps.size := rfl
  unfold pyNext
  refine wpAny_bind (wpAny_attempt (wpAny_callSpecial?_slot (name := Str.ofString "__next__") hit.kind RT.slot_rt_next (wpAny_call_entry RT.slot_rt_next hit.kind RT.entry_rt_next ?_ (RT.args_rt_next _))))
  unfold Builtin.«reversed.__next__»
  refine wpAny_bind (wpAny_of_eq (a := (Value.ref it, [])) rfl ?_) <;> try dsimp only
  refine wpAny_bind (wpAny_field ho hd (x := .str x t) rfl ?_) <;> try dsimp only
  refine wpAny_bind (wpAny_field ho hd (x := rawInt (i : Int)) rfl ?_)
  show wpAny _ _ (if (i : Int) < 0 then _ else _) _ _ s
  rw [if_neg (by omega)] <;> try dsimp only
  refine wpAny_bind (wpAny_specialOf kx str_getit ?_)
  try dsimp only
  try rw [if_neg (by decide)]
  try dsimp only
  refine wpAny_bind (wpAny_mkInt ?_) <;> refine wpAny_bind (wpAny_attempt ?_)
  have fin : seqIndex? (i : Int) x.length = some i := seqIndex_of (by omega) (by omega)
  refine PySem.P.getItem_str (s := { s with toks := s.toks + 1 }) (c := c) (by
    have e1 : decide ((i : Int) < -(2 ^ 63 : Int)) = false := decide_eq_false (by omega)
    have e2 : decide ((i : Int) ≥ 2 ^ 63) = false := decide_eq_false (by omega)
    rw [e1, e2] <;> rfl) (by rw [fin]; exact hx) ?_
  try dsimp only
  refine wpAny_bind (wpAny_field (s := { s with toks := s.toks + 1 + 1 }) ho hd (x := rawInt (i : Int)) rfl ?_)
  try dsimp only
  refine wpAny_bind (wpAny_setField (s := { s with toks := s.toks + 1 + 1 }) ho hd (by simp) ?_)
  first
  | refine wpAny_pure ⟨_, rfl, wpAny_pure (hQ _ _ _ ?_ (Heap.SameBut.update ..))⟩
  | refine wpAny_bind (wpAny_pure (wpAny_pure ⟨_, rfl, wpAny_pure (hQ _ _ _ ?_ (Heap.SameBut.update ..))⟩))
  exact ⟨_, Heap.get?_update_self _ ho (Obj.isFreed_of_fields (Obj.data_mapFields hd _)), (Obj.cls_mapFields ..).trans hc, by rw [Obj.data_mapFields hd]; simp⟩
theorem rs_end {it : Addr} {x : Str} {t : Tok} {Q : Option Value → Shared → Prop} (hh : A.handled = none) (hit : IsRs s.heap it x t (-1))
    (hQ : ∀ h', Heap.ExtBut it s.heap h' → Q none { s with heap := h' }) : wpAny (model prog w) A (pyNext (.ref it)) Q E s := by
  obtain ⟨o, ho, hc, hd⟩ := id hit
  unfold pyNext
  refine wpAny_bind (wpAny_attempt (wpAny_callSpecial?_slot (name := Str.ofString "__next__") hit.kind RT.slot_rt_next (wpAny_call_entry RT.slot_rt_next hit.kind RT.entry_rt_next ?_ (RT.args_rt_next _))))
  unfold Builtin.«reversed.__next__»
  refine wpAny_bind (wpAny_of_eq (a := (Value.ref it, [])) rfl ?_) <;> try dsimp only
  refine wpAny_bind (wpAny_field ho hd (x := .str x t) rfl ?_) <;> try dsimp only
  refine wpAny_bind (wpAny_field ho hd (x := rawInt (-1)) rfl ?_)
  show wpAny _ _ (if (-1 : Int) < 0 then _ else _) _ _ s
  rw [if_pos (by decide)] <;> try dsimp only
  refine wpAny_bind (wpAny_rule ?_) <;> refine wpAny_bind ?_ <;> wp_delta
  refine wpAny_bind (wpAny_setField ho hd (by simp) ?_)
  have ho2 := Heap.get?_update_self (Obj.mapFields (·.setIfInBounds 1 (rawInt (-1)))) ho (Obj.isFreed_of_fields (Obj.data_mapFields hd _))
  refine wpAny_setField (s := { s with heap := s.heap.update it (Obj.mapFields (·.setIfInBounds 1 (rawInt (-1)))) }) ho2 (Obj.data_mapFields hd _) (by simp) ?_
  try dsimp only
  first
  | show wpAny _ _ (newExc (.type "StopIteration") [] >>= _) _ _ _
  | (refine wpAny_bind ?_; show wpAny _ _ (newExc (.type "StopIteration") [] >>= _) _ _ _)
  | (refine wpAny_bind ?_; wp_delta; show wpAny _ _ (newExc (.type "StopIteration") [] >>= _) _ _ _)
  refine wpAny_bind ?_
  simp only [newExc, newTuple]
  refine wpAny_bind (wpAny_newObj_type ?_ (by size_fits))
  refine wpAny_bind (m := firstArgMember _ _) (wpAny_of_eq (a := Value.none) (by first | rfl | (simp only [firstArgMember]; rfl)) ?_)
  refine wpAny_newObj_type ?_ (by size_fits)
  simp only [raiseNew]
  refine wpAny_bind (wpAny_handled ?_)
  first | rw [show A.in1.handled = none from hh] | rw [hh]
  refine wpAny_bind (wpAny_pure (wpAny_throw ?_))
  refine wpAny_bind (wpAny_isInstance (T := "StopIteration") (b := true) ⟨_, Heap.get?_push_size _ rfl, rfl⟩ isSubtype_stop ?_)
  refine wpAny_pure (hQ _ ?_)
  refine ((?_ : Heap.ExtBut it s.heap _).push _).push _
  exact fun b ob hb e => (Heap.get?_update_other _ _ (Ne.symm hb)).trans ((Heap.get?_update_other _ _ (Ne.symm hb)).trans e)
theorem rs_iter {it : Addr} {x : Str} {t : Tok} {i : Int} {Q : Value → Shared → Prop} (hit : IsRs s.heap it x t i) (h : Q (.ref it) s) : wpAny (model prog w) A (pyIter (.ref it)) Q E s := by
  refine wpAny_pyIter_slot hit.kind RT.slot_rt_iter (wpAny_call_entry RT.slot_rt_iter hit.kind RT.entry_rt_iter ?_ (RT.args_rt_iter _))
  show wpAny _ _ (ret (.ref it)) _ _ s
  exact wpAny_pure ⟨_, rfl, "reversed", _, hit.kind, RT.slot_rt_next.lookup, h⟩
end
/-- the signs of a text from the last -/
def RsIt (x : Str) : It := ⟨fun i _ => i < x.cps.size, fun i H v H' => H' = H ∧ ∃ c, x.cps[x.cps.size - 1 - i]? = some c ∧ v = .str ⟨#[c]⟩, fun i _ => x.cps.size ≤ i⟩
theorem rs_turn {P : Program} {w : World} {K : PySem.W.Frag} {tg : Expr} (it : Addr) (x : Str) (t : Tok) (hx : x.length ≤ sizeLine) :
    Turn P w K tg (RsIt x) [it] it (fun i h => i ≤ x.cps.size ∧ IsRs h it x t ((x.cps.size : Int) - 1 - (i : Nat))) where
  mem := by simp
  obj := fun i h st b hb => by
    obtain rfl : b = it := by simpa using hb
    obtain ⟨_, o, e, c, d⟩ := st
    exact ⟨o, e, fun v z => by rw [d] at z; cases z⟩
  keep := fun i h h' st k => by
    obtain ⟨hi, o, e, r⟩ := st
    exact ⟨hi, o, k it (by simp) o e, r⟩
  item := by
    intro X hP hw hK hc i pins s σ H E I hf st hg
    subst hP hw hK
    have hlt : i < x.cps.size := hg
    obtain ⟨f0, f1, f2, f3, f4, f5⟩ := hf it (by simp)
    obtain ⟨_, hit⟩ := st
    have e1 : (x.cps.size : Int) - 1 - ((i : Nat) : Int) = ((x.cps.size - 1 - i : Nat) : Int) := by omega
    rw [e1] at hit
    have hj : x.cps.size - 1 - i < x.cps.size := by omega
    have hcx : x.cps[x.cps.size - 1 - i]? = some x.cps[x.cps.size - 1 - i] := Array.getElem?_eq_getElem hj
    refine rs_next hit hcx hx fun h' u k st' sb => ?_
    have e2 : ((x.cps.size - 1 - i : Nat) : Int) - 1 = (x.cps.size : Int) - 1 - ((i + 1 : Nat) : Int) := by omega
    rw [e2] at st'
    have J : Inv X pins σ H { s with heap := h', toks := k } := I.turned (t' := k) (fun b o hb e => (sb.2 b hb).trans e) f0 f1 f3 f4 f5
    obtain ⟨o, e, c, d⟩ := id st'
    exact ⟨_, rfl, go_of (s := { s with heap := h', toks := k }) e c d (by decide) ⟨.str ⟨#[_]⟩, H, J, ⟨u, rfl⟩, ⟨rfl, _, hcx, rfl⟩, ⟨hlt, st'⟩, fun b hb => (hf b hb).1⟩⟩
  done := by
    intro X hP hw hK hc i pins s σ H E I hf st hg
    subst hP hw hK
    obtain ⟨f0, f1, f2, f3, f4, f5⟩ := hf it (by simp)
    obtain ⟨hin, hit⟩ := st
    have hge : x.cps.size ≤ i := hg
    have e1 : (x.cps.size : Int) - 1 - ((i : Nat) : Int) = -1 := by omega
    rw [e1] at hit
    exact rs_end (I.ok.hd hc) hit fun h' eb => ⟨rfl, I.turned (t' := s.toks) (fun b o hb e => eb b o hb e) f0 f1 f3 f4 f5⟩
  self := fun A i s Q E st h => rs_iter st.2 h
def iRs (te : TE) : TI := fun σ H R => te σ H fun v H1 => ∃ x, v = .str x ∧ x.length ≤ sizeLine ∧ R (RsIt x) H1
/-- for c in reversed(x) of a text -/
theorem pi_rs {X : Cx} {tg e : Expr} {te : TE} {p pos : Pos} (hg : Gl X "reversed") (hm : X.mg "reversed" = none) (he : PE X e te) (hs : starEach [e] X.env = (false, eval e X.env) :: starEach [] X.env := by rfl) : PI X tg (.Call (.Name "reversed" p) [e] [] pos) (iRs te) := by
  refine ⟨fun pins s σ H R I h => ?_⟩
  refine Call_ (ld_blt I hg hm boot_reversed (callWith_type1 (args_cons (thn (he.run pins s σ H _ I h) fun u s1 ⟨v, H1, I1, r1, x, ev, hx, q⟩ => args_nil ?_) hs) hs rfl))
  subst ev
  obtain ⟨t, rfl⟩ := r1
  refine rs_call hx (rs_iter (x := x) (t := t) (i := (x.length : Int) - 1) ⟨_, Heap.get?_push_size _ rfl, rfl, rfl⟩ ?_)
  refine pi_one (tk := s1.toks + 1 + 1) I1 _ (rs_turn _ x t hx) ⟨Nat.zero_le _, ?_⟩ q
  have e1 : (x.length : Int) - 1 = (x.cps.size : Int) - 1 - ((0 : Nat) : Int) := by show (x.cps.size : Int) - 1 = _; omega
  rw [← e1]
  exact ⟨_, Heap.get?_push_size _ rfl, rfl, rfl⟩
theorem for_rs {x : Str} {g : TG} {tb : TS} {D : Ends} {σ : L2.St} {H : Hp} (Pv : Nat → L2.St → Hp → Prop) (h0 : Pv 0 σ H)
    (hs : ∀ (i c : Nat) (σ : L2.St) (H : Hp), i < x.cps.size → x.cps[x.cps.size - 1 - i]? = some c → Pv i σ H → g (.str ⟨#[c]⟩) σ H fun σ2 H2 => tb { D with nx := Pv (i + 1), ct := Pv (i + 1), bk := D.nx } σ2 H2) (hd : ∀ σ H, Pv x.cps.size σ H → D.nx σ H) :
    ∃ W : Nat → Nat → L2.St → Hp → Prop, (∃ m, W 0 m σ H) ∧ ∀ i m σ H, W i m σ H →
      ((RsIt x).stop i H ∧ D.nx σ H) ∨ ((RsIt x).go i H ∧ ∃ N : L2.St → Hp → Prop, (∀ σ' H', N σ' H' → ∃ m', m' < m ∧ W (i + 1) m' σ' H') ∧ ∀ v H', (RsIt x).yld i H v H' → g v σ H' fun σ2 H2 => tb { D with nx := N, ct := N, bk := D.nx } σ2 H2) := by
  refine ⟨fun i m σ H => m = x.cps.size - i ∧ i ≤ x.cps.size ∧ Pv i σ H, ⟨_, rfl, Nat.zero_le _, h0⟩, ?_⟩
  rintro i m σ H ⟨rfl, hi, p⟩
  by_cases hlt : i < x.cps.size
  · refine .inr ⟨hlt, Pv (i + 1), fun σ' H' p' => ⟨_, by omega, rfl, hlt, p'⟩, fun v H' r => ?_⟩
    obtain ⟨rfl, c, hc, rfl⟩ := r
    exact hs i c σ _ hlt hc p
  · obtain rfl : i = x.cps.size := by omega
    exact .inl ⟨Nat.le_refl _, hd σ H p⟩
end Hid

namespace Hid
open PySem PySem.Spec PyProof.Rows L2
/-! sorted of data -/
section
variable {X : Cx} {β : Type}
def rSortD (K : PySem.W.Frag) (enc : β → PyData) : List V → Hp → VK → Prop := fun vs H Q => ∃ (a : Addr) (xs : List V) (bs : List β) (R : V → β → Prop), vs = [.ref a] ∧ SqL K H a xs ∧ Paired R xs bs ∧ (∀ v b, R v b → Dp K H v (enc b)) ∧
  PySem.W.AllAlike (bs.map enc) ∧ PySem.W.Sortable (bs.map enc) ∧ (∀ b ∈ bs, (enc b).depth ≤ 8) ∧ ∀ ys p, Paired R ys (bs.mergeSort (PySem.W.dataLe false enc)) → H p = none → Q (.ref p) (upd H p (.lst ys))
theorem each_of_paired {R : V → β → Prop} : ∀ {xs : List V} {its : List Value} {bs : List β}, Vals xs its → Paired R xs bs → PySem.W.EachIs (fun v b => ∃ x, RelV x v ∧ R x b) its bs
  | _, _, _, .nil, .nil => .nil
  | _, _, _, .cons r rs, .cons d ds => .cons ⟨_, r, d⟩ (each_of_paired rs ds)
theorem paired_of_each {R : V → β → Prop} : ∀ {out : List Value} {bs : List β}, PySem.W.EachIs (fun v b => ∃ x, RelV x v ∧ R x b) out bs → ∃ ys, Vals ys out ∧ Paired R ys bs
  | _, _, .nil => ⟨[], .nil, .nil⟩
  | _, _, .cons ⟨x, r, d⟩ t => let ⟨ys, h1, h2⟩ := paired_of_each t; ⟨x :: ys, .cons r h1, .cons d h2⟩
theorem paired_len {α γ : Type} {F : α → γ → Prop} : ∀ {l : List α} {m : List γ}, Paired F l m → l.length = m.length
  | _, _, .nil => rfl
  | _, _, .cons _ t => congrArg (· + 1) (paired_len t)
theorem each_mono {α γ : Type} {R R' : α → γ → Prop} (h : ∀ a b, R a b → R' a b) : ∀ {l : List α} {m : List γ}, PySem.W.EachIs R l m → PySem.W.EachIs R' l m
  | _, _, .nil => .nil
  | _, _, .cons a t => .cons (h _ _ a) (each_mono h t)
theorem cr_sortD {enc : β → PyData} (hu : X.A.units + 64 < cLine) : CallR X (.builtin "sorted") (rSortD X.K enc) := by
  intro pins s σ H vs us Q I r h
  obtain ⟨a, xs, bs, R, rfl, hs, hp, hR, hal, hk, hd, q⟩ := h
  obtain ⟨its, rv, hl, hz⟩ := I.list hs
  rw [Vals.ref1 r]
  have e := each_of_paired rv hp
  have hlen : bs.length = xs.length := (paired_len hp).symm
  refine PySem.W.sorted_data (vs := its) hl.isList e (each_mono (fun v b ⟨x, r, d⟩ => Dp.reads I _ _ _ (hR _ _ d) r) e) hal hk (by rw [hlen]; exact hz) (fun b hb => ?_) fun out ho eo => ?_
  · have := hd b hb
    omega
  · obtain ⟨ys, h1, h2⟩ := paired_of_each eo
    obtain ⟨c, hc⟩ := sortedAll_at s.heap its (List.toArray out)
    have hle : s.heap.objs.size ≤ s.heap.objs.size + 1 := Nat.le_succ _
    refine ⟨.ref (s.heap.objs.size + 1), upd H (s.heap.objs.size + 1) (.lst ys), I.laid (t' := s.toks) (fun _ _ => sortedAll_old) hle ⟨?_, out, c, h1, hc⟩, rfl, q ys _ h2 (I.hok.fresh hle)⟩
    rw [h1.length, ho, hlen]
    exact hz
end
/-- pairs of texts as data -/
def encSS (p : Str × Str) : PyData := .tuple [.str p.1, .str p.2]
theorem cr_sortSS {X : Cx} (hu : X.A.units + 64 < cLine) : CallR X (.builtin "sorted") (rSortD X.K encSS) := cr_sortD hu
theorem le_ss (p q : Str × Str) (h : p.1.cps.toList < q.1.cps.toList) : PySem.W.dataLe false encSS p q = true := by
  show (!PySem.W.dataLt (.tuple [.str q.1, .str q.2]) (.tuple [.str p.1, .str p.2])) = true
  have ne : PyData.eqv (.str q.1) (.str p.1) = false := by
    show (q.1 == p.1) = false
    rw [beq_eq_false_iff_ne]
    intro e
    rw [e] at h
    exact List.lt_irrefl _ h
  rw [PySem.W.dataLt_pair (by simp [PySem.W.alike]) (by simp [PySem.W.alike]), ne, if_neg Bool.false_ne_true, PySem.W.dataLt_str]
  have : ¬ q.1.cps.toList < p.1.cps.toList := fun z => List.lt_irrefl _ (List.lt_trans h z)
  simp [this]
/-! text * number, >>= -/
section
variable {X : Cx}
theorem op_mul_str : OpR X (binaryOp .Mult) (fun x y H Q => ∃ z i, x = .str z ∧ y = .int i ∧ 0 ≤ i ∧ i ≤ 1000 ∧ z.length ≤ 1000 ∧ Q (.str (Txt.mul z i)) H) := by
  intro pins s σ H x y v u Q I rx ry h
  obtain ⟨z, i, rfl, rfl, h0, h1, h2, q⟩ := h
  obtain ⟨t, rfl⟩ := rx
  obtain ⟨t', rfl⟩ := ry
  refine PySem.SB.mul ⟨?_, fun n1 _ => ?_, fun n1 _ => ?_⟩ fun t' k => ⟨.str _, H, I.tok k, ⟨t', rfl⟩, q⟩
  · have e1 : decide (i < -(2 ^ 63 : Int)) = false := decide_eq_false (by omega)
    have e2 : decide (i ≥ 2 ^ 63) = false := decide_eq_false (by omega)
    rw [e1, e2] <;> rfl
  · have : (1000 : Int) ≤ (2 ^ 63 - 1) / i := (Int.le_ediv_iff_mul_le (by omega)).mpr (by omega)
    omega
  · unfold Builtin.Str.tooLong
    have h3 : z.length * i.toNat ≤ 1000 * 1000 := Nat.mul_le_mul h2 (by omega)
    have h4 : (1000 * 1000 : Nat) ≤ sizeLine := by decide
    exact decide_eq_false (by omega)
theorem ip_shr : PIp X .RShift (rI (fun _ j => 0 ≤ j) fun i j => .int (i / 2 ^ j.toNat)) := iop_shr
end
/-! sep.join(reversed(list)) -/
theorem gives_join {x : Str} (lz : List (Str × Tok)) (g0 : Builtin.Str.tooLong ((lz.map (·.1)).toArray.foldl (· + ·.length + x.length) 0) = false) : Gives (PySem.joinTail x (strValues lz)) (joinMade x lz) := by
  have g1 := gives_joinTail x lz g0
  match lz, g0, g1 with
  | [], _, g1 => exact g1
  | [_], _, g1 => exact g1
  | _ :: _ :: _, _, g1 => exact g1
section
variable {prog : Program} {w : World} {A : Around} {E : Value → Shared → Prop} {s : Shared}
theorem join_rev {it l : Addr} {items : Array Value} {ys : List Str} {x : Str} {t : Tok} {Q : Value → Shared → Prop} (hh : A.handled = none) (hit : s.heap.IsRevIter it l ((items.size : Int) - 1)) (hl : s.heap.IsList l items) (hne : l ≠ it) (hn : items.size ≤ sizeLine)
    (hy : StrsAre items.toList ys) (hok : (ys.map (·.length)).sum + ys.length * x.length ≤ 16777216)
    (hq : ∀ (h' : Heap) t' k, (∀ b o, b ≠ it → s.heap.get? b = some o → h'.get? b = some o) → Q (.str (Txt.join x ys.reverse) t') { s with heap := h', toks := k }) :
    wpAny (model prog w) A (call (.builtin "str.join") [.str x t, .ref it]) Q E s := by
  refine wpAny_call (codeAny_call_builtin F.slot_str_join.plain F.entry_str_join (F.slot_str_join.check _ _ _ _ _ _ _ _ (typeIs_str _ _ _) (F.args_str_join_2 _ _) ?_))
  rw [PySem.join_tree_other]
  refine wpAny_bind (wpAny_typeOf hit.typeIs ?_)
  show wpAny _ A.in1 ((pyIter (.ref it)).tryCatch _ >>= fun i => collect i >>= fun items => PySem.joinTail x items) _ _ s
  refine wpAny_bind (wpAny_tryCatch (wpAny_pyIter_revIter hit ?_))
  refine wpAny_bind (RT.collect_rev (A := A.in1) hh hit hl hne hn fun h' tk acc hk hacc => ?_)
  have hr : acc.toList = items.toList.reverse := by
    apply List.ext_getElem?
    intro j
    by_cases hj : j < items.size
    · have h1 : j < acc.size := by rw [hacc.1]; exact hj
      have e1 : acc.toList[j]? = some acc[j] := by rw [Array.getElem?_toList, Array.getElem?_eq_getElem h1]
      have e2 := hacc.2 j acc[j] (Array.getElem?_eq_getElem h1)
      rw [e1, List.getElem?_reverse (by simpa using hj)] <;> simpa using e2.symm
    · rw [List.getElem?_eq_none (by rw [Array.length_toList, hacc.1]; omega), List.getElem?_eq_none (by rw [List.length_reverse, Array.length_toList]; omega)]
  obtain ⟨vals, hv, ht⟩ := strsAre_values hy
  have hl2 : acc.toList = strValues vals.reverse := by
    rw [hr, hv]
    show (List.map _ vals).reverse = List.map _ vals.reverse
    rw [List.map_reverse]
  rw [hl2]
  have hok2 : (((vals.reverse).map (·.1)).map (·.length)).sum + ((vals.reverse).map (·.1)).length * x.length ≤ 16777216 := by
    rw [List.map_reverse, ht, List.map_reverse, List.sum_reverse, List.length_reverse]
    exact hok
  have g0 := joinOk_of hok2
  unfold JoinOk at g0
  rw [Bool.not_eq_true'] at g0
  refine Hid.gives_join vals.reverse g0 prog w A (wants Q E) { s with heap := h', toks := tk } (post_join vals.reverse ⟨joinFit_length g0, fun t' k => ?_⟩)
  rw [List.map_reverse, ht]
  exact hq h' t' k hk
end
/-- x.join(reversed(xs)), xs a list of texts -/
def tJoinRev (K : PySem.W.Frag) (to te : TE) : TE := fun σ H Q => to σ H fun v H1 => ∃ x, v = .str x ∧ te σ H1 fun y H2 => ∃ (a : Addr) (ys : List Str), y = .ref a ∧ SqL K H2 a (ys.map V.str) ∧ (ys.map (·.length)).sum + ys.length * x.length ≤ 16777216 ∧ Q (.str (Txt.join x ys.reverse)) H2
theorem pe_joinRev {X : Cx} {o e : Expr} {to te : TE} {apos pos p2 pos2 : Pos} (hc : X.calm = true) (hg2 : Gl X "reversed") (hm2 : X.mg "reversed" = none) (ho : PE X o to) (he : PE X e te)
    (hs : starEach [e] X.env = (false, eval e X.env) :: starEach [] X.env := by rfl)
    (hs2 : starEach [.Call (.Name "reversed" p2) [e] [] pos2] X.env = [(false, eval (.Call (.Name "reversed" p2) [e] [] pos2) X.env)] := by rfl)
    (hbase : attributeBase o "join" X.env (eval o X.env) = eval o X.env := by rfl) (hline : (apos.endLine == pos.line) = true := by rfl) :
    PE X (.Call (.Attribute o "join" apos) [.Call (.Name "reversed" p2) [e] [] pos2] [] pos) (tJoinRev X.K to te) := by
  refine ⟨fun pins s σ H Q I h => ?_⟩
  refine PySem.Call_method1 hbase hs2 hline (thn (ho.run pins s σ H _ I h) fun v s1 ⟨x0, H1, I1, r1, x, q1, h1⟩ => ?_)
  subst q1
  obtain ⟨t, rfl⟩ := _root_.id r1
  refine ⟨"str", _, F.plainAttrs_str, F.slot_str_join, F.type_str_join, typeIs_str _ _ _, (fun _ e => nomatch e), Calls.callWith_builtin rfl (Calls.evalArgs_plain (Calls.spliced_cons ?_))⟩
  refine Call_ (ld_blt I1 hg2 hm2 boot_reversed (callWith_type1 (args_cons (thn (he.run pins s1 σ H1 _ I1 h1) fun u s2 ⟨y, H2, I2, r2, q2⟩ => args_nil ?_) hs) hs rfl))
  obtain ⟨a, ys, rfl, hq, hz, q⟩ := q2
  obtain rfl : u = Value.ref a := r2
  obtain ⟨its, rv, p', hn⟩ := I2.list hq
  refine call_reversed_list p'.isList (Calls.spliced_nil ?_)
  have k0 : ∀ b ob, s2.heap.get? b = some ob → (s2.heap.push (revObj a ((its.toArray.size : Int) - 1))).get? b = some ob := fun b ob e => Heap.get?_push_of_some _ e
  have I3 : Inv X pins σ H2 { s2 with heap := s2.heap.push (revObj a ((its.toArray.size : Int) - 1)) } := I2.kept (t' := s2.toks) k0
  obtain ⟨f0, f1, f2, f3, f4, f5⟩ := I2.fpOk (H' := H2) (b := s2.heap.objs.size) (Nat.le_refl _) (I2.hok.fresh (Nat.le_refl _))
  have hl := p'.isList
  obtain ⟨ol, hol, _⟩ := _root_.id hl
  have hne : a ≠ s2.heap.objs.size := Nat.ne_of_lt (Heap.lt_size hol)
  refine join_rev (s := { s2 with heap := s2.heap.push (revObj a ((its.toArray.size : Int) - 1)) }) (ys := ys) (I2.ok.hd hc) ⟨_, Heap.get?_push_size _ rfl, rfl, rfl⟩ (hl.push _) hne (by rw [List.size_toArray, ← rv.length]; exact hn) (by rw [List.toList_toArray]; exact strs_of_vals rv) hz fun h' t' k hk => ?_
  exact ⟨.str _, H2, I3.turned (t' := k) (fun b ob hb e => hk b ob hb e) f0 f1 f3 f4 f5, ⟨t', rfl⟩, q⟩
end Hid

namespace Hid
open PySem
/-! texts as lists of signs: n 110, b 98, y 121 -/
abbrev tx (l : List Nat) : Str := ⟨l.toArray⟩
theorem tx_cps (z : Str) : tx z.cps.toList = z := by cases z; simp [tx]
theorem tx_inj {a c : List Nat} (h : tx a = tx c) : a = c := by
  have := congrArg (fun z : Str => z.cps.toList) h
  simpa [tx] using this
def RowL (l : List Nat) : Prop := (1 ≤ l.length ∧ l.length ≤ 8) ∧ ∀ c ∈ l, c = 110 ∨ c = 98 ∨ c = 121
/-! the count of a sign -/
theorem occ_count (x : Str) (c : Nat) : ∀ (n a : Nat) (st : Array Nat × Nat), a + n = x.length + 1 → st.2 ≤ a → st.1.size ≤ a →
    (forIn (List.range' a n) st (StrLaws.occBody x ⟨#[c]⟩ x.length (x.length + 1))).run.fst.size = st.1.size + (x.cps.toList.drop a).count c := by
  intro n
  induction n with
  | zero =>
    intro a st h1 _ _
    have : x.cps.toList.drop a = [] := List.drop_eq_nil_of_le (by simp only [Array.length_toList]; show x.length ≤ a; omega)
    rw [this]
    rfl
  | succ n ih =>
    intro a st h1 h2 h3
    rw [List.range'_succ, List.forIn_cons]
    have hs := StrLaws.subAt_one x c a
    by_cases hc : x.cps.toList[a]? = some c
    · obtain ⟨q1, q2⟩ := hs.mpr hc
      have hlt : a < x.cps.toList.length := (List.getElem?_eq_some_iff.mp hc).1
      have e : x.cps.toList.drop a = c :: x.cps.toList.drop (a + 1) := by
        rw [List.drop_eq_getElem_cons hlt, (List.getElem?_eq_some_iff.mp hc).2]
      unfold StrLaws.occBody
      rw [if_pos ⟨⟨⟨by omega, h2⟩, q1⟩, q2⟩]
      have := ih (a + 1) (st.1.push a, a + (⟨#[c]⟩ : Str).length) (by omega) (Nat.le_refl _) (by rw [Array.size_push]; omega)
      refine Eq.trans this ?_
      rw [e, List.count_cons_self]
      show (st.1.push a).size + _ = _
      rw [Array.size_push]
      omega
    · have hn : ¬ (a + (⟨#[c]⟩ : Str).length ≤ x.length ∧ Builtin.Str.subAt x ⟨#[c]⟩ a = true) := fun h => hc (hs.mp h)
      unfold StrLaws.occBody
      rw [if_neg fun h => hn ⟨h.1.2, h.2⟩]
      have := ih (a + 1) (st.1, st.2) (by omega) (by show st.2 ≤ a + 1; omega) (by show st.1.size ≤ a + 1; omega)
      refine Eq.trans this ?_
      by_cases hlt : a < x.cps.toList.length
      · have e : x.cps.toList.drop a = x.cps.toList[a] :: x.cps.toList.drop (a + 1) := List.drop_eq_getElem_cons hlt
        rw [e, List.count_cons_of_ne]
        intro z
        exact hc (by rw [List.getElem?_eq_getElem hlt, z])
      · rw [List.drop_eq_nil_of_le (by omega), List.drop_eq_nil_of_le (by omega)]
theorem count_one (x : Str) (c : Nat) : Txt.count x ⟨#[c]⟩ = (x.cps.toList.count c : Int) := by
  unfold Txt.count
  rw [StrLaws.occ_eq, Array.length_toList, occ_count x c _ 0 (#[], 0) (by omega) (Nat.le_refl _) (Nat.zero_le _)]
  simp
/-! lists of signs joined -/
def sg1 (c : Nat) : Str := ⟨#[c]⟩
theorem join_one (l : List Nat) : Txt.join (tx []) (l.map sg1) = tx l := by
  show Builtin.Str.glued _ _ = _
  rw [StrLaws.glued_eq_join]
  induction l with
  | nil => rfl
  | cons c r ih =>
    cases r with
    | nil => rfl
    | cons d r =>
      show Str.join (tx []) (sg1 c :: sg1 d :: r.map sg1) = _
      have e : Str.join (tx []) (sg1 c :: sg1 d :: r.map sg1) = sg1 c ++ tx [] ++ Str.join (tx []) ((d :: r).map sg1) := rfl
      rw [e, ih]
      show (⟨(#[c] ++ #[]) ++ (d :: r).toArray⟩ : Str) = ⟨(c :: d :: r).toArray⟩
      simp
theorem sg1_len (l : List Nat) : ((l.map sg1).map (·.length)).sum = l.length := by
  induction l with
  | nil => rfl
  | cons c r ih =>
    show (sg1 c).length + ((r.map sg1).map (·.length)).sum = r.length + 1
    rw [ih]
    show 1 + r.length = _
    omega
/-! the mirror -/
def tw (m s : Nat) : Nat := if m = 98 then (if s = 110 then 121 else 110) else s
def turned (row half : List Nat) : List Nat := List.zipWith tw row half
def rb (s t : Nat) : Nat := if s = t then s else 98
def rowBy (a o : List Nat) : List Nat := List.zipWith rb a o
def sgn (k : Nat) : Nat := if k % 2 = 0 then 110 else 121
def lesR : List Nat → Nat → List Nat
  | [], _ => []
  | c :: r, k => if c = 98 then sgn k :: lesR r (k / 2) else c :: lesR r k
def lesser (row : List Nat) (k : Nat) : List Nat := (lesR row.reverse k).reverse
def many (row : List Nat) : Nat := 2 ^ (row.count 98 - 1)
def part (row : List Nat) (k : Nat) : List Nat × List Nat := (lesser row k, turned row (lesser row k))
def grow (c : Nat) (p : List Nat × List Nat) : List (List Nat × List Nat) :=
  if c ≠ 98 then [(p.1 ++ [c], p.2 ++ [c])] else (p.1 ++ [110], p.2 ++ [121]) :: (if p.1 ≠ p.2 then [(p.1 ++ [121], p.2 ++ [110])] else [])
def allP (row : List Nat) : List (List Nat × List Nat) := row.foldl (fun ps c => ps.flatMap (grow c)) [([], [])]
theorem allP_snoc (r : List Nat) (c : Nat) : allP (r ++ [c]) = (allP r).flatMap (grow c) := by
  unfold allP
  rw [List.foldl_append]
  rfl
theorem lesR_len : ∀ (r : List Nat) (k : Nat), (lesR r k).length = r.length
  | [], _ => rfl
  | c :: r, k => by
    unfold lesR
    split <;> simp [lesR_len]
theorem lesser_len (row : List Nat) (k : Nat) : (lesser row k).length = row.length := by
  unfold lesser
  rw [List.length_reverse, lesR_len, List.length_reverse]
theorem turned_len (row half : List Nat) (h : half.length = row.length) : (turned row half).length = row.length := by
  unfold turned
  rw [List.length_zipWith, h, Nat.min_self]
theorem lesser_b (r : List Nat) (k : Nat) : lesser (r ++ [98]) k = lesser r (k / 2) ++ [sgn k] := by
  unfold lesser
  rw [List.reverse_append]
  show (lesR (98 :: r.reverse) k).reverse = _
  rw [show lesR (98 :: r.reverse) k = sgn k :: lesR r.reverse (k / 2) by conv => lhs; unfold lesR; rw [if_pos rfl]]
  rw [List.reverse_cons]
theorem lesser_o (r : List Nat) (c k : Nat) (h : c ≠ 98) : lesser (r ++ [c]) k = lesser r k ++ [c] := by
  unfold lesser
  rw [List.reverse_append]
  show (lesR (c :: r.reverse) k).reverse = _
  rw [show lesR (c :: r.reverse) k = c :: lesR r.reverse k by conv => lhs; unfold lesR; rw [if_neg h]]
  rw [List.reverse_cons]
theorem turned_snoc (r h : List Nat) (c x : Nat) (e : h.length = r.length) : turned (r ++ [c]) (h ++ [x]) = turned r h ++ [tw c x] := by
  unfold turned
  rw [List.zipWith_append e.symm]
  rfl
theorem rowBy_snoc (a o : List Nat) (x y : Nat) (e : a.length = o.length) : rowBy (a ++ [x]) (o ++ [y]) = rowBy a o ++ [rb x y] := by
  unfold rowBy
  rw [List.zipWith_append e]
  rfl
theorem part_b (r : List Nat) (k : Nat) : part (r ++ [98]) k = ((part r (k / 2)).1 ++ [sgn k], (part r (k / 2)).2 ++ [tw 98 (sgn k)]) := by
  unfold part
  rw [lesser_b, turned_snoc _ _ _ _ (lesser_len _ _)]
theorem part_o (r : List Nat) (c k : Nat) (h : c ≠ 98) : part (r ++ [c]) k = ((part r k).1 ++ [c], (part r k).2 ++ [c]) := by
  unfold part
  rw [lesser_o _ _ _ h, turned_snoc _ _ _ _ (lesser_len _ _)]
  unfold tw
  rw [if_neg h]
/-- two b and more: turned is another -/
theorem turned_ne : ∀ (r h : List Nat), h.length = r.length → 98 ∈ r → h ≠ turned r h
  | [], _, _, m => nomatch m
  | c :: r, [], e, _ => nomatch e
  | c :: r, x :: h, e, m => by
    intro z
    have z' : x :: h = tw c x :: turned r h := z
    injection z' with z1 z2
    rcases List.mem_cons.mp m with q | q
    · subst q
      unfold tw at z1
      rw [if_pos rfl] at z1
      split at z1 <;> omega
    · exact turned_ne r h (by simpa using e) q z2
theorem part_no_b (r : List Nat) (k : Nat) (h : r.count 98 = 0) : part r k = (r, r) := by
  have hm : 98 ∉ r := List.count_eq_zero.mp h
  have e1 : ∀ (l : List Nat) (k : Nat), 98 ∉ l → lesR l k = l := by
    intro l
    induction l with
    | nil => intros; rfl
    | cons c l ih =>
      intro k m
      rw [List.mem_cons, not_or] at m
      unfold lesR
      rw [if_neg (fun z => m.1 z.symm), ih k m.2]
  have e2 : ∀ (l : List Nat), 98 ∉ l → turned l l = l := by
    intro l
    induction l with
    | nil => intros; rfl
    | cons c l ih =>
      intro m
      rw [List.mem_cons, not_or] at m
      show tw c c :: turned l l = _
      rw [ih m.2]
      unfold tw
      rw [if_neg (fun z => m.1 z.symm)]
  unfold part lesser
  rw [e1 _ _ (by simpa using hm), List.reverse_reverse, e2 _ hm]
theorem range_two (m : Nat) : List.range (2 * m) = (List.range m).flatMap fun k => [2 * k, 2 * k + 1] := by
  induction m with
  | zero => rfl
  | succ m ih =>
    rw [List.range_succ, List.flatMap_append, ← ih, show 2 * (m + 1) = 2 * m + 1 + 1 by omega, List.range_succ, List.range_succ]
    simp
theorem many_snoc (r : List Nat) (c : Nat) : many (r ++ [c]) = if c = 98 ∧ r.count 98 ≠ 0 then 2 * many r else many r := by
  unfold many
  rw [List.count_append]
  by_cases hc : c = 98
  · subst hc
    have : List.count 98 [98] = 1 := rfl
    rw [this]
    by_cases h0 : r.count 98 = 0
    · rw [if_neg (fun h => h.2 h0), h0]
    · rw [if_pos ⟨rfl, h0⟩, show r.count 98 + 1 - 1 = r.count 98 - 1 + 1 by omega, Nat.pow_succ]
      omega
  · have : List.count 98 [c] = 0 := List.count_eq_zero.mpr (by simpa using fun z => hc z.symm)
    rw [this, if_neg (fun h => hc h.1)]
    rfl
theorem sgn_two (k : Nat) : sgn (2 * k) = 110 ∧ sgn (2 * k + 1) = 121 := by
  unfold sgn
  constructor
  · rw [if_pos (by omega)]
  · rw [if_neg (by omega)]
theorem tw_b : tw 98 110 = 121 ∧ tw 98 121 = 110 := by decide
/-- the law's own list is the list by numbers -/
theorem allP_eq (row : List Nat) : allP row = (List.range (many row)).map (part row) := by
  induction h : row.length generalizing row with
  | zero =>
    have : row = [] := List.length_eq_zero_iff.mp h
    subst this
    rfl
  | succ n ih =>
    have hne : row ≠ [] := fun z => by rw [z] at h; cases h
    obtain ⟨r, c, rfl⟩ : ∃ r c, row = r ++ [c] := ⟨row.dropLast, row.getLast hne, (List.dropLast_concat_getLast hne).symm⟩
    have hr : r.length = n := by simpa using h
    rw [allP_snoc, ih r hr, many_snoc]
    by_cases hc : c = 98
    · subst hc
      by_cases h0 : r.count 98 = 0
      · rw [if_neg (fun h => h.2 h0)]
        have hm : many r = 1 := by unfold many; rw [h0]
        rw [hm]
        show grow 98 (part r 0) ++ [] = [part (r ++ [98]) 0]
        rw [part_b, part_no_b r 0 h0, List.append_nil]
        unfold grow
        rw [if_neg (by decide), if_neg (by simp)]
        rfl
      · rw [if_pos ⟨rfl, h0⟩, range_two, List.map_flatMap, List.flatMap_map]
        congr 1
        funext k
        show grow 98 (part r k) = [part (r ++ [98]) (2 * k), part (r ++ [98]) (2 * k + 1)]
        rw [part_b, part_b, show 2 * k / 2 = k by omega, show (2 * k + 1) / 2 = k by omega, (sgn_two k).1, (sgn_two k).2, tw_b.1, tw_b.2]
        have hd : (part r k).1 ≠ (part r k).2 := turned_ne r _ (lesser_len _ _) (List.count_pos_iff.mp (by omega))
        unfold grow
        rw [if_neg (by decide), if_pos hd]
    · rw [if_neg (fun h => hc h.1), List.flatMap_map, ← List.flatMap_singleton' ((List.range (many r)).map _), List.flatMap_map]
      congr 1
      funext k
      show grow c (part r k) = [part (r ++ [c]) k]
      rw [part_o _ _ _ hc]
      unfold grow
      rw [if_pos hc]
/-! order -/
theorem app_lt : ∀ (a o x y : List Nat), a.length = o.length → a < o → a ++ x < o ++ y
  | [], [], x, y, _, h => absurd h (List.lt_irrefl _)
  | [], _ :: _, _, _, e, _ => nomatch e
  | _ :: _, [], _, _, e, _ => nomatch e
  | p :: a, q :: o, x, y, e, h => by
    rcases List.cons_lt_cons_iff.mp h with h1 | ⟨h1, h2⟩
    · exact List.cons_lt_cons_iff.mpr (.inl h1)
    · exact List.cons_lt_cons_iff.mpr (.inr ⟨h1, app_lt a o x y (by simpa using e) h2⟩)
theorem app_same : ∀ (a : List Nat) (x y : Nat), x < y → a ++ [x] < a ++ [y]
  | [], x, y, h => List.cons_lt_cons_iff.mpr (.inl h)
  | p :: a, x, y, h => List.cons_lt_cons_iff.mpr (.inr ⟨rfl, app_same a x y h⟩)
/-- what the law asks of each -/
theorem part_good (row : List Nat) : (∀ k, (part row k).1.length = row.length ∧ (part row k).2.length = row.length ∧ rowBy (part row k).1 (part row k).2 = row) ∧
    (∀ k, k < many row → (part row k).1 = (part row k).2 ∨ (part row k).1 < (part row k).2) ∧ ∀ k l, k < l → l < many row → (part row k).1 < (part row l).1 := by
  induction h : row.length generalizing row with
  | zero =>
    have : row = [] := List.length_eq_zero_iff.mp h
    subst this
    refine ⟨fun k => ⟨rfl, rfl, rfl⟩, fun k _ => .inl rfl, fun k l h1 h2 => ?_⟩
    have : many [] = 1 := rfl
    omega
  | succ n ih =>
    have hne : row ≠ [] := fun z => by rw [z] at h; cases h
    obtain ⟨r, c, rfl⟩ : ∃ r c, row = r ++ [c] := ⟨row.dropLast, row.getLast hne, (List.dropLast_concat_getLast hne).symm⟩
    have hr : r.length = n := by simpa using h
    obtain ⟨g1, g2, g3⟩ := ih r hr
    rw [List.length_append] at h
    by_cases hc : c = 98
    · subst hc
      refine ⟨fun k => ?_, fun k hk => ?_, fun k l h1 h2 => ?_⟩
      · obtain ⟨q1, q2, q3⟩ := g1 (k / 2)
        rw [part_b, ← h]
        refine ⟨by simp [q1, hr], by simp [q2, hr], ?_⟩
        show rowBy (_ ++ [sgn k]) (_ ++ [tw 98 (sgn k)]) = _
        rw [rowBy_snoc _ _ _ _ (q1.trans q2.symm), q3]
        congr 2
        unfold sgn
        split <;> rfl
      · rw [part_b]
        obtain ⟨q1, q2, q3⟩ := g1 (k / 2)
        rw [many_snoc] at hk
        by_cases h0 : r.count 98 = 0
        · rw [if_neg (fun h => h.2 h0)] at hk
          have hm : many r = 1 := by unfold many; rw [h0]
          have k0 : k = 0 := by omega
          subst k0
          rw [part_no_b r _ h0]
          exact .inr (app_same r 110 121 (by decide))
        · rw [if_pos ⟨rfl, h0⟩] at hk
          rcases g2 (k / 2) (by omega) with q | q
          · exact absurd q (turned_ne r _ (lesser_len _ _) (List.count_pos_iff.mp (by omega)))
          · exact .inr (app_lt _ _ _ _ (q1.trans q2.symm) q)
      · rw [part_b, part_b]
        rw [many_snoc] at h2
        by_cases h0 : r.count 98 = 0
        · rw [if_neg (fun h => h.2 h0)] at h2
          have hm : many r = 1 := by unfold many; rw [h0]
          omega
        · rw [if_pos ⟨rfl, h0⟩] at h2
          by_cases hkl : k / 2 = l / 2
          · rw [hkl]
            have e1 : sgn k = 110 := by unfold sgn; rw [if_pos (by omega)]
            have e2 : sgn l = 121 := by unfold sgn; rw [if_neg (by omega)]
            rw [e1, e2]
            exact app_same _ _ _ (by decide)
          · exact app_lt _ _ _ _ ((g1 _).1.trans (g1 _).1.symm) (g3 _ _ (by omega) (by omega))
    · have hm : many (r ++ [c]) = many r := by rw [many_snoc, if_neg (fun h => hc h.1)]
      refine ⟨fun k => ?_, fun k hk => ?_, fun k l h1 h2 => ?_⟩
      · obtain ⟨q1, q2, q3⟩ := g1 k
        rw [part_o _ _ _ hc, ← h]
        refine ⟨by simp [q1, hr], by simp [q2, hr], ?_⟩
        show rowBy (_ ++ [c]) (_ ++ [c]) = _
        rw [rowBy_snoc _ _ _ _ (q1.trans q2.symm), q3]
        congr 2
        unfold rb
        rw [if_pos rfl]
      · rw [part_o _ _ _ hc]
        rcases g2 k (by omega) with q | q
        · left
          show _ ++ [c] = _ ++ [c]
          rw [q]
        · exact .inr (app_lt _ _ _ _ ((g1 k).1.trans (g1 k).2.1.symm) q)
      · rw [part_o _ _ _ hc, part_o _ _ _ hc]
        exact app_lt _ _ _ _ ((g1 _).1.trans (g1 _).1.symm) (g3 _ _ h1 (by omega))
end Hid

namespace Hid
open PySem PySem.Spec PyProof.Rows L2 Evl
/-- a def of the text: where it stands -/
def Df (K : PySem.W.Frag) (mg : Str → Option Value) (x : Str) (st : Stmt) (ps : List Str) : Prop := ∃ (f : Addr) (fd : FuncData), Fun K x x st f fd ∧ Binds K fd ps [] ∧ mg x = some (.ref f)
/-- .. and what it promises -/
def At (P : Program) (w : World) (K : PySem.W.Frag) (mg : Str → Option Value) (base : Heap) (x : Str) (st : Stmt) (n : Nat) (ps : List Str) (sp : Sp) : Prop :=
  ∃ (f : Addr) (fd : FuncData), Fun K x x st f fd ∧ Binds K fd ps [] ∧ mg x = some (.ref f) ∧ FnOk P w K mg base CX0 n f fd ps sp
section
variable {K : PySem.W.Frag} {σ : L2.St} {H H' : Hp} {ta tb tc te tl : TE}
theorem walk_zs {x y : Str} {n : Nat} (hn : n = min x.cps.size y.cps.size) : Walk (ZsIt x y) n (fun _ => True) (fun i G v G' => ∃ T c d, v = .ref T ∧ G T = none ∧ G' = upd G T (.tup [.str ⟨#[c]⟩, .str ⟨#[d]⟩]) ∧ x.cps[i]? = some c ∧ y.cps[i]? = some d) := by
  subst hn
  exact ⟨fun _ _ hi _ => hi, fun _ _ => Nat.le_refl _, fun _ _ _ _ _ _ q => q⟩
abbrev vs1 (l : List Nat) : List V := l.map fun c => V.str (sg1 c)
theorem vs1_str (l : List Nat) : vs1 l = (l.map sg1).map V.str := by rw [List.map_map]; rfl
/-- ''.join of a list of signs -/
theorem r_join {l : List Nat} {p : Addr} {Q : VK} (hp : SqL K H p (vs1 l)) (hl : l.length ≤ 1000000) (q : Q (.str (tx l)) H) :
    ∃ a p', ∃ ys : List Str, (V.str (tx []) : V) = .str a ∧ [V.ref p] = [V.ref p'] ∧ (SqL K H p' (ys.map V.str) ∨ SqT K H p' (ys.map V.str)) ∧ (ys.map (·.length)).sum + ys.length * a.length ≤ 16777216 ∧ Q (.str (Txt.join a ys)) H := by
  refine ⟨tx [], p, l.map sg1, rfl, rfl, .inl (by rw [← vs1_str]; exact hp), ?_, ?_⟩
  · rw [sg1_len]
    show l.length + _ * 0 ≤ 16777216
    omega
  · rw [join_one]
    exact q
theorem str1_dec (c d : Nat) : decide ((V.str (sg1 c) : V) = V.str (sg1 d)) = decide (c = d) := by
  by_cases h : c = d
  · rw [decide_eq_true h, decide_eq_true (by rw [h])]
  · rw [decide_eq_false h, decide_eq_false]
    intro z
    have z2 : sg1 c = sg1 d := V.str.inj z
    have := congrArg (fun s : Str => s.cps.toList) z2
    simp [sg1] at this
    exact h this
theorem strtx_dec (a o : List Nat) : decide ((V.str (tx a) : V) = V.str (tx o)) = decide (a = o) := by
  by_cases h : a = o
  · rw [decide_eq_true h, decide_eq_true (by rw [h])]
  · rw [decide_eq_false h, decide_eq_false]
    intro z
    exact h (tx_inj (V.str.inj z))
theorem ev_chain {r r' : R2} {x y z : V} {b b' : Bool} (ha : Ev ta σ H x) (hb : Ev tb σ H y) (hr : RV r x y H (.bl b)) (hc : b = true → Ev tc σ H z) (hr' : b = true → RV r' y z H (.bl b')) : Ev (tChain r r' ta tb tc) σ H (.bl (b && b')) := fun H1 e Q q =>
  ha H1 e _ fun H2 e2 => hb H2 (e.trans e2) _ fun H3 e3 => hr H3 ((e.trans e2).trans e3) _ fun H4 e4 => ⟨b, rfl, by
    cases b with
    | true => exact iteT (hc rfl H4 (((e.trans e2).trans e3).trans e4) _ fun H5 e5 => hr' rfl H5 ((((e.trans e2).trans e3).trans e4).trans e5) _ fun H6 e6 => q H6 ((((e2.trans e3).trans e4).trans e5).trans e6))
    | false => exact iteF (q H4 ((e2.trans e3).trans e4))⟩
theorem ev_isi {x : V} {t n : String} {b : Bool} (ha : Ev ta σ H x) (ht : ∀ H1, Ex H H1 → TyX K H1 x (.type t)) (hk : kitB t n = some b) : Ev (tCB (rIsi K) (tCons ta (tCons (tC (.ty n)) tNil))) σ H (.bl b) := fun H1 e Q q =>
  ha H1 e _ fun H2 e2 => ⟨x, .ty n, _, _, b, rfl, .ty n, ht H2 (e.trans e2), kit_ty hk, q H2 e2⟩
theorem ev_all {bs : List Bool} (h : EvL tl σ H (bs.map V.bl)) : Ev (tCB (rAll K) (tCons tl tNil)) σ H (.bl (bs.all id)) := fun H1 e Q q =>
  h H1 e _ fun p H2 hp e2 h2 => ⟨p, bs, rfl, sq_of h2, q H2 e2⟩
theorem given_true (n : Nat) (v : Nat → V) : given n (fun _ => true) v = (List.range n).map v := by
  unfold given
  rw [List.filter_eq_self.mpr fun _ _ => rfl]
theorem c_call {sp : Sp} {E : XK} {ta : TA} {vs : List V} {Q : VK} (h : EvA ta σ H vs) (k : ∀ H2, Ex H H2 → sp vs H2 Q E) : tCall sp [] E ta σ H Q := h H (Ex.refl _) _ fun H2 e2 => by
  show sp (vs ++ []) H2 Q E
  rw [List.append_nil]
  exact k H2 e2
theorem c_call1 {sp : Sp} {E : XK} {ta : TA} {vs : List V} {Q : List V → Hp → Prop} (h : EvA ta σ H vs) (k : ∀ H2, Ex H H2 → sp vs H2 (fun x H3 => Q [x] H3) E) : tCons (tCall sp [] E ta) tNil σ H Q := c_call h k
theorem tyes {T E : Hp → Prop} (h : T H) : tYes σ H (fun b H3 => if b = true then T H3 else E H3) := by
  show if true = true then T H else E H
  rw [if_pos rfl]
  exact h
theorem et_yes : EvT tYes σ H true := fun H1 _ _ q => q H1 (Ex.refl _)
/-- a comprehension over a list of pairs -/
theorem el_lcP {a : Addr} {xs : List V} {i j : Nat} {vs : List Nat} (v : Nat → V) (h : Ev tl σ H (.ref a)) (hx : SqL K H a xs) (hz : xs.length ≤ 40000)
    (hw : ∀ p q, wipe (((wipe σ vs).set i (some p)).set j (some q)) vs = wipe σ vs)
    (hp : ∀ n x, xs[n]? = some x → ∃ t p q, x = .ref t ∧ SqT K H t [p, q] ∧ Ev te (((wipe σ vs).set i (some p)).set j (some q)) H (v n)) :
    EvL (tLc (iList K tl) (gTup K 2 (gCons (gName i) (gCons (gName j) gNil))) tYes te vs) σ H ((List.range xs.length).map v) := fun H0 e Q q => h H0 e _ fun H1 e1 => ⟨a, rfl, ⟨xs, ex_l (e.trans e1) hx⟩, fun Dl hD =>
  lc_list (xs := xs) (Cw H1 (fun _ => true) v Dl) ⟨hD, Ex.new hD, upd_same⟩ (fun i H' _ p => ex_l ((e.trans e1).trans p.2.1) hx) (fun n x H' hn p => by
      obtain ⟨t, x1, x2, rfl, hT, hE⟩ := hp n x hn
      exact ⟨t, [x1, x2], rfl, ex_t ((e.trans e1).trans p.2.1) hT, rfl, x1, [x2], rfl, x2, [], rfl, rfl, hw x1 x2, cw_turn (f := fun _ => true) p (by have := (List.getElem?_eq_some_iff.mp hn).1; omega) et_yes fun _ => hE.mono (e.trans e1)⟩)
    (fun H' p => q Dl H' (fresh_back e1 p.1) (e1.trans p.2.1) (by rw [p.2.2, given_true]))⟩
/-! pairs of texts -/
def PrT (K : PySem.W.Frag) (H : Hp) (v : V) (p : List Nat × List Nat) : Prop := ∃ t, v = .ref t ∧ H t = some (.tup [.str (tx p.1), .str (tx p.2)])
abbrev Prs (K : PySem.W.Frag) (H : Hp) (vs : List V) (ps : List (List Nat × List Nat)) : Prop := Paired (PrT K H) vs ps
theorem PrT.ex {v : V} {p : List Nat × List Nat} (e : Ex H H') (h : PrT K H v p) : PrT K H' v p := let ⟨t, a, c⟩ := h; ⟨t, a, e _ _ c⟩
theorem paired_mono {α γ : Type} {F G : α → γ → Prop} (h : ∀ a b, F a b → G a b) : ∀ {l : List α} {m : List γ}, Paired F l m → Paired G l m
  | _, _, .nil => .nil
  | _, _, .cons a t => .cons (h _ _ a) (paired_mono h t)
theorem paired_app {α γ : Type} {F : α → γ → Prop} : ∀ {l l' : List α} {m m' : List γ}, Paired F l m → Paired F l' m' → Paired F (l ++ l') (m ++ m')
  | _, _, _, _, .nil, h => h
  | _, _, _, _, .cons a t, h => .cons a (paired_app t h)
theorem paired_get {α γ : Type} {F : α → γ → Prop} : ∀ {l : List α} {m : List γ}, Paired F l m → ∀ (i : Nat) (x : α), l[i]? = some x → ∃ y, m[i]? = some y ∧ F x y
  | _, _, .nil, i, x, h => by simp at h
  | _, _, .cons a t, 0, x, h => by
    cases h
    exact ⟨_, rfl, a⟩
  | _, _, .cons a t, i + 1, x, h => paired_get t i x h
theorem Prs.ex {vs : List V} {ps : List (List Nat × List Nat)} (e : Ex H H') (h : Prs K H vs ps) : Prs K H' vs ps := paired_mono (fun _ _ q => q.ex e) h
/-- a list changed: the pairs stand -/
theorem Prs.upd {vs : List V} {ps : List (List Nat × List Nat)} {D : Addr} {xs : List V} {o : HO} (hD : H D = some (.lst xs)) (h : Prs K H vs ps) : Prs K (upd H D o) vs ps := paired_mono (fun v p ⟨t, a, c⟩ => ⟨t, a, by
  rw [upd_ne]
  · exact c
  · intro z
    rw [z, hD] at c
    cases c⟩) h
def dSS (p : List Nat × List Nat) : PyData := .tuple [.str (tx p.1), .str (tx p.2)]
theorem PrT.dp {v : V} {p : List Nat × List Nat} (h : PrT K H v p) : Dp K H v (dSS p) := by
  obtain ⟨t, rfl, c⟩ := h
  exact .tup (st_of c) (.cons (.str _) (.cons (.str _) .nil))
theorem Prs.dp : ∀ {vs : List V} {ps : List (List Nat × List Nat)}, Prs K H vs ps → DpAll K H vs (ps.map dSS)
  | _, _, .nil => .nil
  | _, _, .cons a t => .cons a.dp (Prs.dp t)
end
end Hid

namespace Hid
open PySem PySem.Spec PyProof.Rows L2
/-! sets of texts: the members as a list without doubles -/
def tKey (e : Int × Value) : Str := match e.2 with | .str k _ => k | _ => Str.empty
def TGood (w : World) (e : Int × Value) : Prop := ∃ k tk, e.2 = Value.str k tk ∧ e.1 = hashStr w k
def SetT (w : World) (h : Heap) (a : Addr) (xs : List Str) : Prop :=
  ∃ o es ep t, h.get? a = some o ∧ o.ExactSet ∧ o.data = .set es ep t ∧ (∀ e ∈ es.toList, TGood w e) ∧ (es.toList.map tKey).Perm xs ∧ xs.Nodup ∧ es.size < scanBound ∧ t.fits es.size = true ∧
    Ris t.place.toList ∧ (w.params.followText "set-order" = true ∨ t.led = true)
/-- one more, where it isn't in -/
def putT (x : Str) (xs : List Str) : List Str := if x ∈ xs then xs else x :: xs
theorem SetT.keep {w : World} {h h' : Heap} {a : Addr} {xs : List Str} (R : SetT w h a xs) (k : ∀ o, h.get? a = some o → h'.get? a = some o) : SetT w h' a xs := by
  obtain ⟨o, es, ep, t, ho, r⟩ := R
  exact ⟨o, es, ep, t, k o ho, r⟩
section
variable {P : Program} {w : World} {A : Around} {E : Value → Shared → Prop} {s : Shared} {a : Addr} {xs : List Str}
theorem tElems {l : List (Int × Value)} (g : ∀ e ∈ l, TGood w e) : ElemsOf (PySem.strKind P w) l := fun e he => by
  obtain ⟨k, tk, h1, h2⟩ := g e he
  refine ⟨⟨k, ?_, h2⟩, ?_⟩ <;> rw [h1]
  · exact strKind_is P w k tk
  · rfl
theorem tIs {e : Int × Value} (g : TGood w e) (k : Str) : (PySem.strKind P w).is k e.2 = true ↔ tKey e = k := by
  obtain ⟨k0, tk, h1, _⟩ := g
  unfold tKey
  rw [h1]
  constructor
  · intro z
    obtain ⟨u, hu⟩ := Value.isStrOf_shape (show Value.isStrOf k (Value.str k0 tk) = true from z)
    injection hu
  · intro z
    subst z
    exact strKind_is P w _ tk
/-- the stores behind a laying: the table is laid anew where it is too full -/
theorem tStore {g : Bool → Sem Unit} (hg : ∀ (b : Bool) (s₁ : Shared) (Q' : Unit → Shared → Prop), Q' () s₁ → wpAny (model P w) A (g b) Q' E s₁)
    {o : Obj} {es es1 : Array (Int × Value)} {ep : Nat} {t t2 : SetTable} {ys : List Str} (ho : s.heap.get? a = some o) (hex : o.ExactSet) (hd : o.data = .set es ep t)
    (g1 : ∀ e ∈ es1.toList, TGood w e) (p1 : (es1.toList.map tKey).Perm ys) (n1 : ys.Nodup) (b1 : es1.size < scanBound) (f2 : t2.fits es1.size = true) (r2 : Ris t2.place.toList) (l2 : w.params.followText "set-order" = true ∨ t2.led = true)
    {was : Bool} {R : Option Bool → Shared → Prop} (hR : ∀ h', Heap.SameBut a s.heap h' → SetT w h' a ys → R (some true) { s with heap := h' }) :
    wpAny (model P w) A (do
        storeSet a es1 t2
        if (!was && t2.tooFull) = true then do
            g (relayAll t2 es1 (SetTable.grown es1.size)).2.2
            storeSet a (relayAll t2 es1 (SetTable.grown es1.size)).1 (relayAll t2 es1 (SetTable.grown es1.size)).2.1
            pure (some true)
          else pure (some true)) R E s := by
  have sb1 := Heap.SameBut.update s.heap a (Obj.putSet es1 t2)
  have ho1 := store_at (es' := es1) (t' := t2) ho hd
  refine wpAny_bind (wpAny_storeSet_of ho hd ?_ (fits_of_scanBound b1))
  by_cases hfull : (!was && t2.tooFull) = true
  · rw [if_pos hfull]
    obtain ⟨pm, f3, r3, l3⟩ := And.intro (relayAll_perm t2 es1 (SetTable.grown es1.size)) (And.intro (relayAll_fits t2 es1 (SetTable.grown es1.size)) (And.intro (relayAll_ris t2 es1 (SetTable.grown es1.size)) (relayAll_led t2 es1 (SetTable.grown es1.size))))
    generalize relayAll t2 es1 (SetTable.grown es1.size) = Z at pm f3 r3 l3 ⊢
    obtain ⟨es2, t3, gave⟩ := Z
    dsimp only at pm f3 r3 l3 ⊢
    have hsz : es2.size < scanBound := by
      rw [← Array.length_toList, pm.length_eq, Array.length_toList]
      exact b1
    refine wpAny_bind (hg _ _ _ (wpAny_bind (wpAny_storeSet_of ho1 rfl ?_ (fits_of_scanBound hsz))))
    exact wpAny_pure (hR _ (sb1.trans (Heap.SameBut.update _ a _)) ⟨_, es2, _, t3, store_at (es' := es2) (t' := t3) ho1 rfl, hex, rfl, fun e he => g1 e (pm.mem_iff.mp he), (pm.map tKey).trans p1, n1, hsz, f3, r3, l2.imp id fun z => l3.trans z⟩)
  · rw [if_neg hfull]
    exact wpAny_pure (hR _ sb1 ⟨_, es1, _, t2, ho1, hex, rfl, g1, p1, n1, b1, f2, r2, l2⟩)
theorem tAdd {k : Str} {tk : Tok} {Q : Bool → Shared → Prop} (R : SetT w s.heap a xs) (room : xs.length + 1 < scanBound)
    (hQ : ∀ b h', Heap.SameBut a s.heap h' → SetT w h' a (putT k xs) → Q b { s with heap := h' }) :
    wpAny (model P w) A (setAddHashed a (.str k tk) ((PySem.strKind P w).hash k)) Q E s := by
  obtain ⟨o, es, ep, t, ho, hex, hd, g, pm, nd, hb, hf, hr, hl⟩ := R
  have hkey : (PySem.strKind P w).is k (.str k tk) = true := strKind_is P w k tk
  have hsc : (Value.str k tk).scannable = true := rfl
  have hel : ElemsOf (PySem.strKind P w) es.toList := tElems g
  unfold setAddHashed setAddHashedIn
  refine wpAny_holding (wpAny_bind (wpAny_setState_of ho hd hf ?_))
  dsimp only
  rw [byScan_of hsc hb hel] <;> simp only [↓reduceIte]
  unfold setAddByScan
  refine wpAny_bind (wpAny_bind (wpAny_rule (wpAny_bind (wpAny_setScan_of hkey ho hd hf hel ?_))))
  have mem_iff : k ∈ xs ↔ ∃ e ∈ es.toList, (PySem.strKind P w).is k e.2 = true := by
    rw [← pm.mem_iff, List.mem_map]
    exact ⟨fun ⟨e, he, q⟩ => ⟨e, he, (tIs (g e he) k).mpr q⟩, fun ⟨e, he, q⟩ => ⟨e, he, (tIs (g e he) k).mp q⟩⟩
  cases hfi : List.findIdx? (fun e => (PySem.strKind P w).is k e.2) es.toList with
  | some j =>
    dsimp only
    obtain ⟨hj, pj, _⟩ := List.findIdx?_eq_some_iff_getElem.mp hfi
    have hin : k ∈ xs := mem_iff.mpr ⟨es.toList[j], List.getElem_mem hj, pj⟩
    refine wpAny_pure (wpAny_pure (hQ _ s.heap (Heap.SameBut.refl a s.heap) ?_))
    unfold putT
    rw [if_pos hin]
    exact ⟨o, es, ep, t, ho, hex, hd, g, pm, nd, hb, hf, hr, hl⟩
  | none =>
    dsimp only
    have hin : k ∉ xs := fun z => by
      obtain ⟨e, he, q⟩ := mem_iff.mp z
      have c := List.findIdx?_eq_none_iff.mp hfi e he
      rw [q] at c
      cases c
    have hput : putT k xs = k :: xs := by unfold putT; rw [if_neg hin]
    have hgw : ∀ (b : Bool) {s₁ : Shared} {Q' : Unit → Shared → Prop}, Q' () s₁ → wpAny (model P w) A (match b with | true => rule "set.scan.the-table-gave-way" | false => pure ()) Q' E s₁ := fun b s₁ Q' q => by
      cases b
      · exact wpAny_pure q
      · exact wpAny_rule q
    obtain ⟨lp, lf, lr, ll⟩ := And.intro (layNew_perm t es ((PySem.strKind P w).hash k) (.str k tk)) (And.intro (layNew_fits t es ((PySem.strKind P w).hash k) (.str k tk)) (And.intro (layNew_ris t es ((PySem.strKind P w).hash k) (.str k tk) hr) (layNew_led t es ((PySem.strKind P w).hash k) (.str k tk))))
    generalize layNew t es ((PySem.strKind P w).hash k) (.str k tk) = Z at lp lf lr ll ⊢
    obtain ⟨es1, t1, was, gave⟩ := Z
    dsimp only at lp lf lr ll ⊢
    rw [Array.toList_push] at lp
    have pc : es1.toList.Perm (((PySem.strKind P w).hash k, Value.str k tk) :: es.toList) := lp.trans (List.perm_append_singleton _ _)
    have p1 : (es1.toList.map tKey).Perm (putT k xs) := by
      rw [hput]
      exact (pc.map tKey).trans (List.Perm.cons k pm)
    have n1 : (putT k xs).Nodup := by
      rw [hput]
      exact List.nodup_cons.mpr ⟨hin, nd⟩
    have g1 : ∀ e ∈ es1.toList, TGood w e := fun e he => by
      rcases List.mem_cons.mp (pc.mem_iff.mp he) with z | z
      · rw [z]
        exact ⟨k, tk, rfl, rfl⟩
      · exact g e z
    have b1 : es1.size < scanBound := by
      rw [← Array.length_toList, pc.length_eq, List.length_cons, ← List.length_map (f := tKey), pm.length_eq]
      exact room
    have l1 : w.params.followText "set-order" = true ∨ t1.led = true := hl.imp id fun z => ll.trans z
    refine wpAny_bind (hgw _ ?_)
    split
    · refine wpAny_bind ?_
      rw [hashByValue_scannable 8 hsc]
      refine wpAny_pure (tStore (fun b s₁ Q' q => hgw b q) ho hex hd g1 p1 n1 b1 ?_ ?_ ?_ ?_)
      · first | (split <;> first | exact lf | exact SetTable.fits_plain_off lf) | exact lf
      · first | (split <;> exact lr) | exact lr
      · first | (split <;> exact l1) | exact l1
      · exact fun h' sb r => wpAny_pure (hQ _ h' sb r)
    · refine wpAny_bind (wpAny_pure ?_)
      simp only [↓reduceIte]
      exact tStore (fun b s₁ Q' q => hgw b q) ho hex hd g1 p1 n1 b1 lf lr l1 fun h' sb r => wpAny_pure (hQ _ h' sb r)
end
/-- all of a list put in, one behind the other -/
def putAll (xs : List Str) : List Str → List Str
  | [] => xs
  | y :: ys => putAll (putT y xs) ys
theorem putAll_snoc (xs : List Str) (y : Str) : ∀ ys, putAll xs (ys ++ [y]) = putT y (putAll xs ys) := by
  intro ys
  induction ys generalizing xs with
  | nil => rfl
  | cons z ys ih => exact ih (putT z xs)
theorem putT_mem {x y : Str} {xs : List Str} : y ∈ putT x xs ↔ y = x ∨ y ∈ xs := by
  unfold putT
  split
  · rename_i h
    exact ⟨.inr, fun z => z.elim (fun e => e ▸ h) id⟩
  · rw [List.mem_cons]
theorem putT_nodup {x : Str} {xs : List Str} (h : xs.Nodup) : (putT x xs).Nodup := by
  unfold putT
  split
  · exact h
  · rename_i n
    exact List.nodup_cons.mpr ⟨n, h⟩
theorem putT_len (x : Str) (xs : List Str) : (putT x xs).length ≤ xs.length + 1 := by
  unfold putT
  split
  · exact Nat.le_succ _
  · exact Nat.le_refl _
theorem putAll_mem {y : Str} : ∀ (ys xs : List Str), y ∈ putAll xs ys ↔ y ∈ xs ∨ y ∈ ys
  | [], xs => by simp [putAll]
  | z :: ys, xs => by
    show y ∈ putAll (putT z xs) ys ↔ _
    rw [putAll_mem ys, putT_mem, List.mem_cons]
    constructor
    · rintro ((h | h) | h)
      · exact .inr (.inl h)
      · exact .inl h
      · exact .inr (.inr h)
    · rintro (h | h | h)
      · exact .inl (.inr h)
      · exact .inl (.inl h)
      · exact .inr h
theorem putAll_nodup : ∀ (ys xs : List Str), xs.Nodup → (putAll xs ys).Nodup
  | [], _, h => h
  | z :: ys, xs, h => putAll_nodup ys _ (putT_nodup h)
theorem putAll_len : ∀ (ys xs : List Str), (putAll xs ys).length ≤ xs.length + ys.length
  | [], _ => Nat.le_refl _
  | z :: ys, xs => by
    have := putAll_len ys (putT z xs)
    have := putT_len z xs
    show (putAll (putT z xs) ys).length ≤ xs.length + (ys.length + 1)
    omega
section
variable {prog : Program} {w : World} {A : Around} {R : Result → Shared → Prop} {I : Addr} {fp wr : List Addr} {G : Array GenState → Array GenState → Prop} {n : Nat} {Pv : Nat → Value → Prop} {St : Nat → Shared → Prop}
theorem tFill (W : WalksS prog w A.in1 I fp wr G n Pv St) (S : Addr) (hSf : S ∉ fp) (xs : List Str) (hlen : xs.length = n) (hsm : n < 4000) (hval : ∀ i v, Pv i v → ∃ t, v = .str (xs.getD i Str.empty) t) :
    ∀ (k i : Nat) (s : Shared), n - i = k → i ≤ n → St i s → SetT w s.heap S (putAll [] (xs.take i)) →
      (∀ s', Moved (S :: wr) G s s' → SetT w s'.heap S (putAll [] xs) → R (.ok (.ret .none)) s') → codeAny (model prog w) A (.builtin "set.update.loop" ⟨[.ref S, .ref I], []⟩) R s := by
  have hSw : S ∉ wr := fun h => hSf (W.sub _ h)
  have up : ∀ b ∈ wr, b ∈ S :: wr := fun b hb => List.mem_cons_of_mem _ hb
  intro k
  induction k with
  | zero =>
    intro i s hk hi hst hS hR
    obtain rfl : i = n := by omega
    refine codeAny_builtin PyProof.Rows.F.entry_set_update_loop ?_
    rw [Around.under_plainId PyProof.Rows.F.plain_set_update_loop _] <;> show wpAny _ A.in1 (pyNext (.ref I) >>= _) _ _ s
    refine wpAny_bind (W.done s _ _ hst fun s' hm => ?_)
    show wpAny _ A.in1 (ret Value.none) _ _ s'
    rw [List.take_of_length_le (Nat.le_of_eq hlen)] at hS
    exact wpAny_pure (hR s' (hm.mono up) (hS.keep fun o e => hm.heap S _ hSw e))
  | succ k ih =>
    intro i s hk hi hst hS hR
    have hlt : i < n := by omega
    refine codeAny_builtin PyProof.Rows.F.entry_set_update_loop ?_
    rw [Around.under_plainId PyProof.Rows.F.plain_set_update_loop _] <;> show wpAny _ A.in1 (pyNext (.ref I) >>= _) _ _ s
    refine wpAny_bind (W.item i s _ _ hlt hst fun v s' hP hst' hm => ?_)
    obtain ⟨t, rfl⟩ := hval i v hP
    show wpAny _ A.in1 (holding [Value.str (xs.getD i Str.empty) t] (setAdd S (.str (xs.getD i Str.empty) t)) >>= _) _ _ s'
    refine wpAny_bind (wpAny_holding ?_) <;> unfold setAdd
    refine wpAny_holding (wpAny_bind ((PySem.strKind prog w).pyHash (k := xs.getD i Str.empty) (strKind_is _ _ _ _) ?_))
    have hroom : (putAll [] (xs.take i)).length + 1 < scanBound := by
      have h1 := putAll_len (xs.take i) []
      have h2 : (xs.take i).length ≤ i := by rw [List.length_take]; omega
      have h3 : scanBound = 4096 := rfl
      rw [List.length_nil] at h1
      omega
    refine tAdd (s := { s' with toks := s'.toks + 1 }) (hS.keep fun o e => hm.heap S _ hSw e) hroom fun b h' sb hS2 => ?_
    have hS3 : SetT w h' S (putAll [] (xs.take (i + 1))) := by
      have e : xs.take (i + 1) = xs.take i ++ [xs.getD i Str.empty] := by
        rw [List.take_add_one, List.getD_eq_getElem?_getD, List.getElem?_eq_getElem (by omega)]
        rfl
      rw [e, putAll_snoc]
      exact hS2
    refine wpAny_pure ⟨plainId_quiet PyProof.Rows.F.plain_set_update_loop _, ih (i + 1) _ (by omega) hlt (W.frame _ s' _ _ hst' (Nat.le_succ _) fun b hb o e => ?_) hS3 fun s'' hm2 hS4 => ?_⟩
    · rw [sb.2 b (fun h : b = S => hSf (by rw [← h]; exact hb))]
      exact e
    · refine hR s'' (Moved.trans W.gtrans ((hm.mono up).then_heap (Nat.le_succ _) fun b o hb e => ?_) hm2) hS4
      rw [sb.2 b (fun h : b = S => hb (by rw [h]; exact List.mem_cons_self))]
      exact e
end
/-! set(t), t a tuple of texts; sorted of a set of texts -/
abbrev newSet (led : Bool) : Obj := { cls := .type "set", dict := none, data := .set #[] 0 (.fresh 0 0 led) }
theorem newSet_ok {w : World} {h : Heap} {a : Addr} {led : Bool} (hl : w.params.followText "set-order" = true ∨ led = true) (e : h.get? a = some (newSet led)) : SetT w h a [] := by
  refine ⟨_, #[], 0, .fresh 0 0 led, e, ⟨rfl, rfl, rfl⟩, rfl, (fun e m => absurd m (by simp)), List.Perm.refl _, List.nodup_nil, (by decide), rfl, List.Pairwise.nil, hl⟩
section
variable {prog : Program} {w : World} {A : Around} {E : Value → Shared → Prop} {s : Shared}
theorem tSetNew (a : Value) {Q₁ : Value → Shared → Prop} (h : Q₁ (.ref s.heap.objs.size) { s with heap := s.heap.push (newSet (!w.params.followText "set-order")) }) :
    codeAny (model prog w) A (.call (.builtin "set.__new__") ⟨[.type "set", a], []⟩) (wants Q₁ E) s := by
  refine codeAny_of_tree ?_
  show wpAny _ A.in1 (do checkBuiltinCall "set.__new__" ⟨[.type "set", a], []⟩; again (.builtin "set.__new__" ⟨[.type "set", a], []⟩)) _ _ s
  refine wpAny_bind (wpAny_of_eq (PySem.F.newCall_set_1 a) (wpAny_pure ⟨plainId_quiet PySem.F.plain_set_new _, codeAny_builtin PySem.F.entry_set_new ?_⟩))
  rw [Around.under_plainId PySem.F.plain_set_new _] <;> unfold Builtin.«set.__new__» Builtin.Frozenset.newClass
  have hsub := sub_set_self; obtain ⟨hp, g, d, tk, os⟩ := s
  dsimp only <;> wp_walk
  refine wpAny_askSetting (wpAny_pure ?_) <;> dsimp only <;> simp only [newObj]
  exact wpAny_bind (wpAny_alloc (wpAny_pure (wpAny_pure h)))
theorem tSetOf {l : Addr} {items : Array Value} {xs : List Str} {Q : Value → Shared → Prop} (hh : A.handled = none) (hl : s.heap.IsTuple l items) (hi : StrsAre items.toList xs) (hsm : xs.length < 4000)
    (h : ∀ (h' : Heap) (tk : Nat), SetT w h' s.heap.objs.size (putAll [] xs) → (∀ b o, b < s.heap.objs.size → s.heap.get? b = some o → h'.get? b = some o) → Q (.ref s.heap.objs.size) { s with heap := h', toks := tk }) :
    wpAny (model prog w) A (call (.type "set") [.ref l]) Q E s := by
  obtain ⟨c, tl, hmro⟩ := PySem.F.called_set.mro
  have hmade := PySem.F.called_set.made; have hsub := PySem.F.called_set.sub
  refine wpAny_call (codeAny_of_tree ?_)
  show wpAny _ _ (callAny (.type "set") _) _ _ _
  refine wpAny_pure ⟨Code.quiet_builtin _ (by decide +kernel), codeAny_builtin PySem.F.entry_type_call ?_⟩
  rw [Around.under_plain (weight_type_call_type "set" [.ref l] []) rfl]
  have h1 := PySem.F.called_set.notType; have h2 := PySem.F.called_set.canCreate; have hct := PySem.F.typeCall_set_1 (.ref l)
  repeat any_goals (first | assumption | wp_step)
  refine codeAny_mono (tSetNew (.ref l) (E := E) (Q₁ := fun obj s₁ => obj = .ref s.heap.objs.size ∧ s₁ = { s with heap := s.heap.push (newSet (!w.params.followText "set-order")) }) ⟨rfl, rfl⟩) fun r s₁ hr => ?_
  cases r with
  | error e => exact hr
  | ok fl =>
    cases fl with
    | next => exact hr.elim
    | brk => exact hr.elim
    | cont => exact hr.elim
    | ret obj =>
      obtain ⟨rfl, rfl⟩ := hr
      generalize hled : (!w.params.followText "set-order") = led
      have hlo : w.params.followText "set-order" = true ∨ led = true := by
        rw [← hled]
        cases w.params.followText "set-order" <;> simp
      have hS : (s.heap.push (newSet led)).get? s.heap.objs.size = some (newSet led) := Heap.get?_push_size _ rfl
      have hT : Shared.TypeIs { s with heap := s.heap.push (newSet led) } (.ref s.heap.objs.size) "set" := ⟨_, hS, rfl⟩
      have hli := PySem.F.called_set.init.lookup; have hbi := PySem.F.called_set.init.bind (.ref s.heap.objs.size)
      repeat any_goals (first | assumption | wp_step)
      refine codeAny_mono (codeAny_call_builtin (R := wants (fun r s₂ => r = .none ∧ ∃ h' tk, s₂ = { s with heap := h', toks := tk } ∧ SetT w h' s.heap.objs.size (putAll [] xs) ∧ (∀ b o, b < s.heap.objs.size → s.heap.get? b = some o → h'.get? b = some o)) E) PySem.F.called_set.init.plain PySem.F.entry_set_init (check_set_init_1 hT ?_)) fun r₂ s₂ hr₂ => ?_
      · obtain ⟨⟨ocls, odict, odata, oslots⟩, hol, hcl, nl, hdl⟩ := hl
        simp only at hcl hdl
        subst hcl; subst hdl
        have hol' : (s.heap.push (newSet led)).get? l = some { cls := .type "tuple", dict := odict, data := .seq items nl, slots := oslots } := Heap.get?_push_of_some _ hol
        have hsls := PySem.F.sub_tuple_set; have hslf := PySem.F.sub_tuple_frozenset
        have hne : (Value.type "tuple" == Value.type "dict") = false := by decide
        have hl1 : (s.heap.push (newSet led)).IsTuple l items := ⟨_, hol', rfl, nl, rfl⟩
        unfold Builtin.«set.__init__» noKeywords Builtin.Frozenset.updateFrom
        generalize hPI : pyIter = PI
        wp_walk
        subst hPI
        refine wpAny_pyIter_tuple hl1 (wpAny_bind (wpAny_runValue ?_))
        have hlS : l < s.heap.objs.size := Heap.lt_size hol
        have hh3 : A.in1.in1.in1.handled = none := by simp [hh]
        have hneI : l ≠ (s.heap.push (newSet led)).objs.size := by
          rw [Heap.size_push]
          exact Nat.ne_of_lt (Nat.lt_succ_of_lt hlS)
        have hSf : s.heap.objs.size ∉ [(s.heap.push (newSet led)).objs.size, l] := by
          rw [Heap.size_push]
          simp only [List.mem_cons, List.not_mem_nil, or_false, not_or]
          exact ⟨Nat.ne_of_lt (Nat.lt_succ_self _), Nat.ne_of_gt hlS⟩
        have hsz : xs.length = items.size := by rw [← StrsAre.len_eq hi, Array.length_toList]
        refine tFill ((Walks.tuple hh3 _ l hneI items).toS) s.heap.objs.size hSf xs hsz (by omega) (fun i v hv => SS.strs_at hi i v (by rw [Array.getElem?_toList]; exact hv)) (items.size - 0) 0 _ (by omega) (Nat.zero_le _)
          ⟨⟨_, Heap.get?_push_size _ rfl, rfl, rfl⟩, (hl1.push _)⟩ (newSet_ok hlo (Heap.get?_push_of_some _ hS)) fun s' hm hS' => ?_
        obtain ⟨h', g', d', tk', os'⟩ := s'
        obtain rfl : g' = s.gens := hm.gens
        obtain rfl : d' = s.drawn := hm.drawn
        obtain rfl : os' = s.os := hm.os
        show wpAny _ _ _ _ _ _
        refine wpAny_pure ?_
        show wpAny _ _ (ret Value.none) _ _ _
        refine wpAny_pure ⟨rfl, h', tk', rfl, hS', fun b o hb e => hm.heap b o ?_ (Heap.get?_push_of_some _ (Heap.get?_push_of_some _ e))⟩
        simp only [List.mem_cons, List.not_mem_nil, or_false, not_or]
        refine ⟨Nat.ne_of_lt hb, ?_⟩
        rw [Heap.size_push]
        exact Nat.ne_of_lt (Nat.lt_succ_of_lt hb)
      · cases r₂ with
        | error e => exact hr₂
        | ok fl₂ =>
          cases fl₂ with
          | next => exact hr₂.elim
          | brk => exact hr₂.elim
          | cont => exact hr₂.elim
          | ret r =>
            obtain ⟨rfl, h', tk, rfl, hS', hk'⟩ := hr₂
            repeat any_goals (first | assumption | wp_step)
            exact h _ _ hS' hk'
end
end Hid

namespace Hid
open PySem PySem.Spec PyProof.Rows L2
def strLe (a b : Str) : Bool := decide (a.cps.toList ≤ b.cps.toList)
theorem str_ext {a b : Str} (h : a.cps.toList = b.cps.toList) : a = b := by
  cases a; cases b
  simp at h
  simpa using h
/-- rising, no two alike -/
abbrev Rise (ys : List Str) : Prop := ys.Pairwise fun a b => a.cps.toList < b.cps.toList
theorem rise_of {ks : List Str} (nd : ks.Nodup) : Rise (ks.mergeSort strLe) ∧ (ks.mergeSort strLe).Perm ks := by
  have pm := List.mergeSort_perm ks strLe
  refine ⟨?_, pm⟩
  have h1 : (ks.mergeSort strLe).Pairwise fun a b => strLe a b = true := List.pairwise_mergeSort (le := strLe) (fun a b c x y => by
      unfold strLe at *
      exact decide_eq_true (List.le_trans (of_decide_eq_true x) (of_decide_eq_true y))) (fun a b => by
      unfold strLe
      rcases List.le_total a.cps.toList b.cps.toList with h | h
      · rw [decide_eq_true h]; rfl
      · rw [decide_eq_true h, Bool.or_true]) ks
  have h2 : (ks.mergeSort strLe).Nodup := pm.nodup_iff.mpr nd
  refine (List.pairwise_and_iff.mpr ⟨h1, h2⟩ : (ks.mergeSort strLe).Pairwise fun a b => strLe a b = true ∧ a ≠ b).imp fun {a b} h => ?_
  have hle : a.cps.toList ≤ b.cps.toList := of_decide_eq_true h.1
  by_cases z : a.cps.toList < b.cps.toList
  · exact z
  · exact absurd (str_ext (List.le_antisymm hle (List.not_lt.mp z))) h.2
theorem each_mono2 {α γ : Type} {R R' : α → γ → Prop} (h : ∀ a b, R a b → R' a b) : ∀ {l : List α} {m : List γ}, PySem.W.EachIs R l m → PySem.W.EachIs R' l m
  | _, _, .nil => .nil
  | _, _, .cons a t => .cons (h _ _ a) (each_mono2 h t)
theorem vals_of_strs : ∀ {us : List Value} {ys : List Str}, StrsAre us ys → Vals (ys.map V.str) us
  | _, _, .nil => .nil
  | _, _, .cons n t h => .cons ⟨t, rfl⟩ (vals_of_strs h)
theorem each_strs {R : Value → Str → Prop} (hR : ∀ v k, R v k → ∃ t, v = .str k t) : ∀ {out : List Value} {ks : List Str}, PySem.W.EachIs R out ks → StrsAre out ks
  | _, _, .nil => .nil
  | _, _, .cons h t => by
    obtain ⟨u, rfl⟩ := hR _ _ h
    exact .cons _ u (each_strs hR t)
theorem strs_each : ∀ {vs : List Value}, (∀ v ∈ vs, ∃ k t, v = Value.str k t) → ∃ ks : List Str, PySem.W.EachIs (fun v k => ∃ t, v = Value.str k t) vs ks ∧ ks = vs.map fun v => tKey (0, v)
  | [], _ => ⟨[], .nil, rfl⟩
  | v :: vs, h => by
    obtain ⟨k, t, rfl⟩ := h v List.mem_cons_self
    obtain ⟨ks, e, q⟩ := strs_each fun u hu => h u (List.mem_cons_of_mem _ hu)
    exact ⟨k :: ks, .cons ⟨t, rfl⟩ e, by rw [q]; rfl⟩
section
variable {P : Program} {w : World} {A : Around} {E : Value → Shared → Prop} {s : Shared} {a : Addr} {xs : List Str}
theorem tSorted {Q : Value → Shared → Prop} (R : SetT w s.heap a xs) (hh : A.handled = none) (hu : A.units + 64 < cLine)
    (hQ : ∀ s' p (out : Array Value) (c : Nat) (ys : List Str), (∀ b o, s.heap.get? b = some o → s'.heap.get? b = some o) → s'.gens = s.gens → s'.os = s.os → s.heap.objs.size ≤ p →
      s'.heap.get? p = some (seqObj "list" out c) → StrsAre out.toList ys → Rise ys → ys.Perm xs → Q (.ref p) s') :
    wpAny (model P w) A (call (.builtin "sorted") [.ref a]) Q E s := by
  obtain ⟨o, es, ep, t, ho, hex, hd, g, pm, nd, hb, hf, hr, hl⟩ := R
  refine Calls.call_function_entry kind_sorted plain_sorted entry_sorted (args_sorted1 _) ?_
  unfold Builtin.«sorted»
  refine wpAny_bind (m := checkCount "sorted" 1 1 _) (wpAny_pure (wpAny_bind (collect_set (A := A.in1) hh ⟨o, ho, hex.1, hd⟩ hf hb hr hl fun s1 vs k1 hz g1 o1 pv => ?_)))
  obtain ⟨ks, ek, hks⟩ := strs_each (vs := vs) fun v hv => by
    obtain ⟨e, he, q⟩ := List.mem_map.mp (pv.mem_iff.mp hv)
    obtain ⟨k, tk, h1, _⟩ := g e he
    exact ⟨k, tk, by rw [← q]; exact h1⟩
  have pk : ks.Perm xs := by
    have q := pv.map fun v => tKey (0, v)
    rw [List.map_map] at q
    rw [hks]
    exact q.trans pm
  have hvl : vs.length < 4096 := by
    rw [pv.length_eq, List.length_map, Array.length_toList]
    exact hb
  have hkl : ks.length = vs.length := ek.length.symm
  refine wpAny_bind (wpAny_newList ?_ (by rw [sizeLine_eq]; omega))
  have hoL : (s1.heap.push (seqObj "list" vs.toArray 0)).get? s1.heap.objs.size = some (seqObj "list" vs.toArray 0) := Heap.get?_push_size _ rfl
  refine wpAny_bind (wpAny_holding ?_)
  refine PySem.W.list_sort_data (s := { s1 with heap := s1.heap.push (seqObj "list" vs.toArray 0) }) (enc := fun k : Str => PyData.str k) hoL ek (each_mono2 (fun v k h => ?_) ek) ?_ ?_ (by rw [sizeLine_eq]; omega) (fun k _ => ?_) fun out hlo eo => ?_
  · obtain ⟨t, rfl⟩ := h
    exact ⟨[], .str k t, fun m => nomatch m⟩
  · exact PySem.W.AllAlike.of fun _ _ => by simp [PySem.W.alike]
  · exact PySem.W.Sortable.others fun _ => ⟨(fun z => nomatch z), (fun _ z => nomatch z)⟩
  · show A.in1.units + 1 + PyData.depth (.str k) < cLine
    have : PyData.depth (.str k) = 0 := by simp [PyData.depth]
    have h2 : A.in1.units = A.units + 1 := rfl
    omega
  · rw [PySem.W.dataLe_str (β := Str) (fun k => k)] at eo
    obtain ⟨c, hc⟩ := sortedHeap_at (vs := vs) (out := out.toArray) hoL
    obtain ⟨rs, rp⟩ := rise_of (pk.nodup_iff.mpr nd)
    refine wpAny_pure ⟨_, rfl, hQ _ s1.heap.objs.size out.toArray c (ks.mergeSort strLe) (fun b u e => ?_) g1 o1 hz hc (by rw [List.toList_toArray]; exact each_strs (fun _ _ h => h) eo) rs (rp.trans pk)⟩
    have q := k1 b u e
    have hlt := Heap.lt_size q
    show (sortedHeap (s1.heap.push (seqObj "list" vs.toArray 0)) s1.heap.objs.size vs out.toArray).get? b = some u
    rw [sortedHeap_old (Nat.ne_of_lt hlt) (by rw [size_push']; exact Nat.lt_succ_of_lt hlt)]
    exact Heap.get?_push_of_some _ q
end
/-- sorted(set(e)), e a tuple of texts -/
def tSortSet (K : PySem.W.Frag) (te : TE) : TE := fun σ H Q => te σ H fun v H1 => ∃ (a : Addr) (xs : List Str), v = .ref a ∧ SqT K H1 a (xs.map V.str) ∧ xs.length < 4000 ∧ ∀ (ys : List Str) (p : Addr), Rise ys → ys.length ≤ xs.length → (∀ x, x ∈ ys ↔ x ∈ xs) → H1 p = none → Q (.ref p) (upd H1 p (.lst (ys.map V.str)))
theorem pe_sortSet {X : Cx} {e : Expr} {te : TE} {p p2 pos pos2 : Pos} (hc : X.calm = true) (hu : X.A.units + 64 < cLine) (hg : Gl X "sorted") (hm : X.mg "sorted" = none) (hg2 : Gl X "set") (hm2 : X.mg "set" = none) (he : PE X e te)
    (hs : starEach [e] X.env = (false, eval e X.env) :: starEach [] X.env := by rfl)
    (hs2 : starEach [.Call (.Name "set" p2) [e] [] pos2] X.env = (false, eval (.Call (.Name "set" p2) [e] [] pos2) X.env) :: starEach [] X.env := by rfl) :
    PE X (.Call (.Name "sorted" p) [.Call (.Name "set" p2) [e] [] pos2] [] pos) (tSortSet X.K te) := by
  refine ⟨fun pins s σ H Q I h => ?_⟩
  refine wpAny_Call_Name_kw (ld_blt I hg hm (by decide +kernel : bootBuiltins "sorted" = some (.builtin "sorted")) ?_)
  refine callWith_builtin1 (args_cons (Call_ (ld_blt I hg2 hm2 (by decide +kernel : bootBuiltins "set" = some (.type "set")) (callWith_type1 (args_cons (thn (he.run pins s σ H _ I h) fun u s1 ⟨v, H1, I1, r1, q1⟩ => args_nil ?_) hs) hs rfl))) hs2) hs2 rfl
  obtain ⟨a, xs, ev, hq, hsm, q⟩ := q1
  subst ev
  obtain rfl : u = Value.ref a := r1
  obtain ⟨its, rv, p', hz⟩ := I1.tuple hq
  have hh := I1.ok.hd hc
  refine tSetOf hh p' (by rw [List.toList_toArray]; exact strs_of_vals rv) hsm fun h' tk hS hk => args_nil ?_
  have I2 : Inv X pins σ H1 { s1 with heap := h', toks := tk } := I1.kept (t' := tk) fun b o e => hk b o (Heap.lt_size e) e
  refine tSorted (s := { s1 with heap := h', toks := tk }) hS hh hu fun s' p3 out c ys k g o hp hget hst hri hpm => ?_
  have hn : H1 p3 = none := I2.hok.fresh hp
  have hys : ys.length ≤ sizeLine := by
    have h1 := putAll_len xs []
    rw [hpm.length_eq, sizeLine_eq]
    rw [List.length_nil] at h1
    omega
  have J : Inv X pins σ (upd H1 p3 (.lst (ys.map V.str))) { ({ s1 with heap := h', toks := tk } : Shared) with heap := s'.heap, gens := s'.gens, drawn := s'.drawn, toks := s'.toks } :=
    I2.call (ch := []) (Un.laid k hp hn) (I2.hok.laid k hp ⟨by rw [List.length_map]; exact hys, out.toList, c, vals_of_strs hst, hget⟩) (by rw [g]; exact I2.bare) (fun _ z => nomatch z)
  have e : s' = { ({ s1 with heap := h', toks := tk } : Shared) with heap := s'.heap, gens := s'.gens, drawn := s'.drawn, toks := s'.toks } := by
    have o2 : s'.os = s1.os := o
    obtain ⟨x1, x2, x3, x4, x5⟩ := s'
    dsimp only at o2 ⊢
    rw [o2]
  rw [e]
  refine ⟨.ref p3, _, J, rfl, q ys p3 hri (by have h1 := putAll_len xs []; rw [List.length_nil] at h1; rw [hpm.length_eq]; omega) (fun x => ?_) hn⟩
  rw [hpm.mem_iff, putAll_mem]
  simp
end Hid

namespace Hid
open PySem PySem.Spec PyProof.Rows L2
abbrev sgAt (h : Str) (i : Nat) : Nat := h.cps.toList.getD i 0
def prAt (h : Str) (i j : Nat) : Str := ⟨#[sgAt h i, sgAt h j]⟩
def HalfS (m : Nat) (h : Str) : Prop := h.cps.size = m ∧ ∀ c ∈ h.cps.toList, c = 110 ∨ c = 121
def fstAt (rs : List Str) (i j : Nat) (p : Str) : Option Str := rs.find? fun h => decide (prAt h i j = p)
def prs : List Str := ["nn", "ny", "yn", "yy"]
def four (rs : List Str) (i j : Nat) : Option (List Str) := match fstAt rs i j "nn", fstAt rs i j "ny", fstAt rs i j "yn", fstAt rs i j "yy" with
  | some a, some b, some c, some d => some [a, b, c, d]
  | _, _, _, _ => none
abbrev srt (hs : List Str) : List Str := hs.mergeSort strLe
abbrev Sorted (l : List Str) : Prop := l.Pairwise fun a b => a.cps.toList ≤ b.cps.toList
theorem srt_sorted (hs : List Str) : Sorted (srt hs) := by
  have h1 : (hs.mergeSort strLe).Pairwise fun a b => strLe a b = true := List.pairwise_mergeSort (le := strLe) (fun a b c x y => by
      unfold strLe at *
      exact decide_eq_true (List.le_trans (of_decide_eq_true x) (of_decide_eq_true y))) (fun a b => by
      unfold strLe
      rcases List.le_total a.cps.toList b.cps.toList with h | h
      · rw [decide_eq_true h]; rfl
      · rw [decide_eq_true h, Bool.or_true]) hs
  exact h1.imp fun h => of_decide_eq_true h
theorem rise_sorted {l : List Str} (h : Rise l) : Sorted l := h.imp fun h => List.le_of_lt h
theorem mem_srt {hs : List Str} {x : Str} : x ∈ srt hs ↔ x ∈ hs := (List.mergeSort_perm hs strLe).mem_iff
theorem srt_len (hs : List Str) : (srt hs).length = hs.length := List.length_mergeSort _
theorem find_least {p : Str → Bool} {x : Str} : ∀ {l : List Str}, Sorted l → l.find? p = some x → ∀ y ∈ l, p y = true → x.cps.toList ≤ y.cps.toList
  | [], _, h, _, _, _ => by cases h
  | z :: l, hs, h, y, hy, py => by
    rw [List.find?_cons] at h
    cases hz : p z with
    | true =>
      rw [hz] at h
      cases h
      rcases List.mem_cons.mp hy with e | e
      · rw [e]; exact List.le_refl _
      · exact (List.pairwise_cons.mp hs).1 y e
    | false =>
      rw [hz] at h
      rcases List.mem_cons.mp hy with e | e
      · rw [e, hz] at py; cases py
      · exact find_least (List.pairwise_cons.mp hs).2 h y e py
theorem find_same {p : Str → Bool} {l m : List Str} (hl : Sorted l) (hm : Sorted m) (e : ∀ x, x ∈ l ↔ x ∈ m) : l.find? p = m.find? p := by
  cases h1 : l.find? p with
  | none =>
    symm
    rw [List.find?_eq_none] at h1 ⊢
    exact fun x hx => h1 x ((e x).mpr hx)
  | some x =>
    have px := List.find?_some h1
    have mx := List.mem_of_find?_eq_some h1
    cases h2 : m.find? p with
    | none =>
      rw [List.find?_eq_none] at h2
      exact absurd px (h2 x ((e x).mp mx))
    | some y =>
      have py := List.find?_some h2
      have my := List.mem_of_find?_eq_some h2
      rw [str_ext (List.le_antisymm (find_least hl h1 y ((e y).mpr my) py) (find_least hm h2 x ((e x).mp mx) px))]
theorem four_same {l m : List Str} (hl : Sorted l) (hm : Sorted m) (e : ∀ x, x ∈ l ↔ x ∈ m) : four l = four m := by
  funext i j
  have h : ∀ p, fstAt l i j p = fstAt m i j p := fun p => find_same hl hm e
  unfold four
  rw [h, h, h, h]
def IsCross (f : Nat → Nat → Option (List Str)) (m : Nat) : Option (Nat × Nat × List Str) → Prop
  | none => ∀ i j, i < j → j < m → f i j = none
  | some (i, j, F) => i < j ∧ j < m ∧ f i j = some F ∧ ∀ i' j', i' < j' → j' < m → (i' < i ∨ i' = i ∧ j' < j) → f i' j' = none
theorem IsCross.uniq {f : Nat → Nat → Option (List Str)} {m : Nat} : ∀ {r r' : Option (Nat × Nat × List Str)}, IsCross f m r → IsCross f m r' → r = r'
  | none, none, _, _ => rfl
  | none, some (i, j, F), h, h' => by
    have := h i j h'.1 h'.2.1
    rw [h'.2.2.1] at this
    cases this
  | some (i, j, F), none, h', h => by
    have := h i j h'.1 h'.2.1
    rw [h'.2.2.1] at this
    cases this
  | some (i, j, F), some (i', j', F'), h, h' => by
    obtain ⟨a1, a2, a3, a4⟩ := h
    obtain ⟨b1, b2, b3, b4⟩ := h'
    have n1 : ¬ (i' < i ∨ i' = i ∧ j' < j) := fun z => by
      have := a4 i' j' b1 b2 z
      rw [b3] at this
      cases this
    have n2 : ¬ (i < i' ∨ i = i' ∧ j < j') := fun z => by
      have := b4 i j a1 a2 z
      rw [a3] at this
      cases this
    obtain ⟨rfl, rfl⟩ : i = i' ∧ j = j' := by omega
    rw [a3] at b3
    cases b3
    rfl
theorem IsCross.ex (f : Nat → Nat → Option (List Str)) (m : Nat) : ∃ r, IsCross f m r := by
  by_cases h : ∃ i j, i < j ∧ j < m ∧ (f i j).isSome = true
  · have dec : ∀ n, (∃ i j, i < j ∧ j < m ∧ i < n ∧ (f i j).isSome = true) → ∃ r, IsCross f m r := by
      intro n
      induction n with
      | zero => rintro ⟨i, j, _, _, h, _⟩; omega
      | succ n ih =>
        intro hx
        by_cases hn : ∃ i j, i < j ∧ j < m ∧ i < n ∧ (f i j).isSome = true
        · exact ih hn
        · have hrow : ∀ k, (∃ j, n < j ∧ j < m ∧ j < k ∧ (f n j).isSome = true) → ∃ r, IsCross f m r := by
            intro k
            induction k with
            | zero => rintro ⟨j, _, _, h, _⟩; omega
            | succ k ihk =>
              intro hy
              by_cases hk : ∃ j, n < j ∧ j < m ∧ j < k ∧ (f n j).isSome = true
              · exact ihk hk
              · obtain ⟨j, h1, h2, h3, h4⟩ := hy
                have hj : j = k := by
                  by_cases hlt : j < k
                  · exact absurd ⟨j, h1, h2, hlt, h4⟩ hk
                  · omega
                subst hj
                obtain ⟨F, hF⟩ := Option.isSome_iff_exists.mp h4
                refine ⟨some (n, j, F), h1, h2, hF, fun i' j' b1 b2 z => ?_⟩
                cases hq : f i' j' with
                | none => rfl
                | some G =>
                  exfalso
                  rcases z with z | ⟨rfl, z⟩
                  · exact hn ⟨i', j', b1, b2, z, by rw [hq]; rfl⟩
                  · exact hk ⟨j', b1, b2, z, by rw [hq]; rfl⟩
          obtain ⟨i, j, a1, a2, a3, a4⟩ := hx
          have hi : i = n := by
            by_cases hlt : i < n
            · exact absurd ⟨i, j, a1, a2, hlt, a4⟩ hn
            · omega
          subst hi
          exact hrow m ⟨j, a1, a2, a2, a4⟩
    obtain ⟨i, j, a, b, c⟩ := h
    exact dec m ⟨i, j, a, b, by omega, c⟩
  · refine ⟨none, fun i j a b => ?_⟩
    cases hq : f i j with
    | none => rfl
    | some G => exact absurd ⟨i, j, a, b, by rw [hq]; rfl⟩ h
/-- one half-row alone crosses nowhere -/
theorem four_one (h : Str) (i j : Nat) : four [h] i j = none := by
  unfold four fstAt
  have e : ∀ p : Str, [h].find? (fun x => decide (prAt x i j = p)) = if prAt h i j = p then some h else none := fun p => by
    rw [List.find?_cons]
    by_cases q : prAt h i j = p
    · rw [decide_eq_true q, if_pos q]
    · rw [decide_eq_false q, if_neg q]; rfl
  rw [e, e]
  by_cases q : prAt h i j = "nn"
  · rw [if_neg (show ¬ prAt h i j = "ny" by rw [q]; decide)]
    split <;> simp_all
  · rw [if_neg q]
theorem prAt_in {m : Nat} {h : Str} {i j : Nat} (hh : HalfS m h) (hi : i < m) (hj : j < m) : prAt h i j = "nn" ∨ prAt h i j = "ny" ∨ prAt h i j = "yn" ∨ prAt h i j = "yy" := by
  have g : ∀ k, k < m → sgAt h k = 110 ∨ sgAt h k = 121 := fun k hk => by
    have hk' : k < h.cps.toList.length := by rw [Array.length_toList, hh.1]; exact hk
    have e : sgAt h k = h.cps.toList[k] := by unfold sgAt; rw [List.getD_eq_getElem?_getD, List.getElem?_eq_getElem hk']; rfl
    rw [e]
    exact hh.2 _ (List.getElem_mem _)
  unfold prAt
  rcases g i hi with a | a <;> rcases g j hj with b | b <;> rw [a, b]
  · exact .inl rfl
  · exact .inr (.inl rfl)
  · exact .inr (.inr (.inl rfl))
  · exact .inr (.inr (.inr rfl))
theorem at_sg {m : Nat} {h : Str} {i : Nat} (hh : HalfS m h) (hi : i < m) : atI h.cps.toList (i : Int) = some (sgAt h i) := by
  have hk' : i < h.cps.toList.length := by rw [Array.length_toList, hh.1]; exact hi
  refine atI_nat ?_
  rw [List.getElem?_eq_getElem hk']
  unfold sgAt
  rw [List.getD_eq_getElem?_getD, List.getElem?_eq_getElem hk']
  rfl
theorem pr_cat (h : Str) (i j : Nat) : ((⟨#[sgAt h i]⟩ : Str) ++ (⟨#[sgAt h j]⟩ : Str)) = prAt h i j := rfl
/-- turned at a place -/
def flip1 (h : Str) (k : Nat) : Str := ⟨(h.cps.toList.set k (if sgAt h k = 110 then 121 else 110)).toArray⟩
theorem flip_half {m k : Nat} {h : Str} (hh : HalfS m h) : HalfS m (flip1 h k) := by
  refine ⟨by unfold flip1; simp; exact hh.1, fun c hc => ?_⟩
  unfold flip1 at hc
  rw [List.toList_toArray] at hc
  rcases List.mem_or_eq_of_mem_set hc with h1 | h1
  · exact hh.2 c h1
  · rw [h1]; split
    · exact .inr rfl
    · exact .inl rfl
end Hid

namespace Hid
open PySem PySem.Spec PyProof.Rows L2
/-! t[::-1] -/
theorem back_pick (xs : Array Value) : ((List.range xs.size).filterMap fun (k : Nat) => xs[(((xs.size : Int) - 1) + (k : Int) * (-1)).toNat]?).toArray = xs.toList.reverse.toArray := by
  congr 1
  have h1 : ((List.range xs.size).filterMap fun (k : Nat) => xs[(((xs.size : Int) - 1) + (k : Int) * (-1)).toNat]?) = (List.range xs.size).map fun k => xs.getD (xs.size - 1 - k) .none := by
    have : ∀ l : List Nat, (∀ k ∈ l, k < xs.size) → (l.filterMap fun (k : Nat) => xs[(((xs.size : Int) - 1) + (k : Int) * (-1)).toNat]?) = l.map fun k => xs.getD (xs.size - 1 - k) .none := by
      intro l
      induction l with
      | nil => intro _; rfl
      | cons k l ih =>
        intro h
        have hk := h k List.mem_cons_self
        have e : (((xs.size : Int) - 1) + (k : Int) * (-1)).toNat = xs.size - 1 - k := by omega
        have hlt : xs.size - 1 - k < xs.size := by omega
        rw [List.filterMap_cons, e, Array.getElem?_eq_getElem hlt, List.map_cons, ← ih fun z hz => h z (List.mem_cons_of_mem _ hz)]
        simp [Array.getD, hlt]
    exact this _ fun k hk => List.mem_range.mp hk
  rw [h1]
  apply List.ext_getElem?
  intro i
  by_cases hi : i < xs.size
  · have hlt : xs.size - 1 - i < xs.size := by omega
    rw [List.getElem?_map, List.getElem?_range hi, List.getElem?_reverse (by rw [Array.length_toList]; exact hi)]
    simp [Array.getD, hlt]
  · rw [List.getElem?_eq_none (by rw [List.length_map, List.length_range]; omega), List.getElem?_eq_none (by rw [List.length_reverse, Array.length_toList]; omega)]
section
variable {prog : Program} {w : World} {A : Around} {E : Value → Shared → Prop} {s : Shared}
theorem back_applied {sl : Addr} {vs : Value} {n : Nat} {Q : Int × Int × Nat → Shared → Prop} (hs : s.heap.IsSliceOf sl .none .none vs) (ps : IsPart vs (some (-1))) (h : Q ((n : Int) - 1, -1, n) s) :
    wpAny (model prog w) A (Builtin.Slice.sliceApplied (.ref sl) (pure (n : Int))) Q E s := by
  obtain ⟨os, hos, hcs, hds⟩ := id hs
  unfold Builtin.Slice.sliceApplied Builtin.Slice.sliceFields
  refine wpAny_bind (wpAny_bind (wpAny_field hos hds (x := .none) rfl (wpAny_bind (wpAny_field hos hds (x := .none) rfl (wpAny_bind (wpAny_field hos hds (x := vs) rfl (wpAny_pure ?_)))))))
  refine wpAny_bind (HT.slicePart_ ps ?_)
  show wpAny _ _ (if ((-1 : Int) == 0) = true then _ else _) _ _ s
  rw [if_neg (by decide)]
  refine wpAny_bind (HT.slicePart_ .none (wpAny_bind (HT.slicePart_ .none (wpAny_bind (wpAny_pure ?_)))))
  have e1 : Builtin.Slice.sliceAdjust none none (-1) (n : Int) = ((n : Int) - 1, -1) := by simp [Builtin.Slice.sliceAdjust]
  have e2 : Builtin.Slice.slicePlaces ((n : Int) - 1) (-1) (-1) = n := by
    unfold Builtin.Slice.slicePlaces
    have h1 : ¬ ((-1 : Int) > 0) := by decide
    simp only [h1, if_false]
    split
    · rw [show (-(-1) : Int) = 1 by decide, Int.ediv_one]
      omega
    · omega
  show wpAny _ _ (match Builtin.Slice.sliceAdjust none none (-1) (n : Int) with | (lo, hi) => pure (lo, (-1 : Int), Builtin.Slice.slicePlaces lo hi (-1))) _ _ s
  rw [e1]
  show wpAny _ _ (pure ((n : Int) - 1, (-1 : Int), Builtin.Slice.slicePlaces ((n : Int) - 1) (-1) (-1))) _ _ s
  rw [e2]
  exact wpAny_pure h
theorem back_item {t sl : Addr} {items : Array Value} {vs : Value} {Q : Value → Shared → Prop} (ht : IsTup s.heap t items) (hs : s.heap.IsSliceOf sl .none .none vs) (ps : IsPart vs (some (-1))) (hsz : items.size ≤ sizeLine)
    (h : Q (.ref s.heap.objs.size) { s with heap := s.heap.push { cls := .type "tuple", data := .seq items.toList.reverse.toArray } }) : wpAny (model prog w) A (getItem (.ref t) (.ref sl)) Q E s := by
  have hok : sizeOk (.seq items.toList.reverse.toArray) := by
    show items.toList.reverse.toArray.size ≤ sizeLine
    simpa using hsz
  obtain ⟨os, hos, hcs, hds⟩ := id hs
  have hTs : s.TypeIs (.ref sl) "slice" := ⟨os, hos, hcs⟩
  unfold getItem
  try with_reducible refine wpAny_holding ?_
  first | refine wpAny_bind (wpAny_pure ?_) | skip
  refine wpAny_bind (wpAny_sequenceKey ht.typeIs (by decide) ?_)
  refine wpAny_bind (wpAny_callSpecial?_slot (name := Str.ofString "__getitem__") ht.typeIs PyProof.Rows.slot_tuple_getitem (wpAny_call_entry PyProof.Rows.slot_tuple_getitem ht.typeIs entry_tuple_getitem ?_ (args_tuple_getitem _ _)))
  show wpAny _ _ (Builtin.Tuple.tupleItemsOf (.ref t) >>= _) _ _ s
  refine wpAny_bind (tupleItemsOf_ ht (wpAny_bind (wpAny_typeOf hTs ?_)))
  rw [if_pos (by decide)]
  refine wpAny_bind (back_applied hs ps ?_)
  show wpAny _ _ (if (((items.size : Int) - 1 == 0 && (-1 : Int) == 1) && items.size == items.size) = true then _ else _) _ _ s
  rw [if_neg (by intro z; rw [Bool.and_eq_true, Bool.and_eq_true] at z; exact absurd z.1.2 (by decide)), back_pick]
  first
    | exact wpAny_bind (m := Builtin.Tuple.tupleExact _) (wpAny_newObj_type (wpAny_pure ⟨_, rfl, wpAny_pure h⟩) hok)
    | exact wpAny_bind (m := Builtin.Tuple.tupleExact _) (wpAny_newObj_type (wpAny_bind (wpAny_pure (wpAny_pure ⟨_, rfl, wpAny_pure h⟩))) hok)
    | exact wpAny_bind (wpAny_bind (m := Builtin.Tuple.tupleExact _) (wpAny_newObj_type (wpAny_pure (wpAny_pure ⟨_, rfl, wpAny_pure h⟩)) hok))
    | exact wpAny_bind (wpAny_bind (m := Builtin.Tuple.tupleExact _) (wpAny_newObj_type (wpAny_pure ⟨_, rfl, wpAny_pure h⟩) hok))
/-- sorted(t), t a tuple of texts -/
theorem sorted_tupS {l : Addr} {items : Array Value} {ks : List Str} {Q : Value → Shared → Prop} (ht : IsTup s.heap l items) (hi : StrsAre items.toList ks) (hz : items.size ≤ 100000) (hu : A.units + 64 < cLine)
    (hQ : ∀ (h1 h' : Heap) (out : Array Value) (c : Nat), (∀ b o, s.heap.get? b = some o → h1.get? b = some o) → (∀ b o, h1.get? b = some o → h'.get? b = some o) → h'.get? h1.objs.size = some (seqObj "list" out c) → StrsAre out.toList (ks.mergeSort strLe) → Q (.ref h1.objs.size) { s with heap := h' }) :
    wpAny (model prog w) A (call (.builtin "sorted") [.ref l]) Q E s := by
  obtain ⟨o, ho, hc, n, hd⟩ := id ht
  refine Calls.call_function_entry kind_sorted plain_sorted entry_sorted (args_sorted1 _) ?_
  unfold Builtin.«sorted»
  have hsz : items.size ≤ sizeLine := Nat.le_trans hz (by decide)
  refine wpAny_bind (m := checkCount "sorted" 1 1 _) (wpAny_pure (wpAny_bind (wpAny_collect_seq (A := A.in1) l (.inr rfl) ho hc hd (fun h1 k1 => ?_) hsz)))
  have hlen : items.toList.length ≤ sizeLine := by rw [Array.length_toList]; exact hsz
  have ek : PySem.W.EachIs (fun v k => ∃ t, v = Value.str k t) items.toList ks := by
    clear hQ
    generalize items.toList = vs at hi
    induction hi with
    | nil => exact .nil
    | cons k t _ ih => exact .cons ⟨t, rfl⟩ ih
  have hkl : ks.length = items.toList.length := ek.length.symm
  refine wpAny_bind (wpAny_newList ?_ hlen)
  have hoL : (h1.push (seqObj "list" items.toList.toArray 0)).get? h1.objs.size = some (seqObj "list" items.toList.toArray 0) := Heap.get?_push_size _ rfl
  refine wpAny_bind (wpAny_holding ?_)
  refine PySem.W.list_sort_data (s := { s with heap := h1.push (seqObj "list" items.toList.toArray 0) }) (enc := fun k : Str => PyData.str k) hoL ek (each_mono2 (fun v k h => ?_) ek) ?_ ?_ (by rw [hkl]; exact hlen) (fun k _ => ?_) fun out hlo eo => ?_
  · obtain ⟨t, rfl⟩ := h
    exact ⟨[], .str k t, fun m => nomatch m⟩
  · exact PySem.W.AllAlike.of fun _ _ => by simp [PySem.W.alike]
  · exact PySem.W.Sortable.others fun _ => ⟨(fun z => nomatch z), (fun _ z => nomatch z)⟩
  · show A.in1.units + 1 + PyData.depth (.str k) < cLine
    have : PyData.depth (.str k) = 0 := by simp [PyData.depth]
    have h2 : A.in1.units = A.units + 1 := rfl
    omega
  · rw [PySem.W.dataLe_str (β := Str) (fun k => k)] at eo
    obtain ⟨c, hcc⟩ := sortedHeap_at (vs := items.toList) (out := out.toArray) hoL
    refine wpAny_pure ⟨_, rfl, hQ h1 _ out.toArray c k1 (fun b u q => ?_) hcc (by rw [List.toList_toArray]; exact each_strs (fun _ _ h => h) eo)⟩
    have hlt := Heap.lt_size q
    show (sortedHeap (h1.push (seqObj "list" items.toList.toArray 0)) h1.objs.size items.toList out.toArray).get? b = some u
    rw [sortedHeap_old (Nat.ne_of_lt hlt) (by rw [size_push']; exact Nat.lt_succ_of_lt hlt)]
    exact Heap.get?_push_of_some _ q
end
section
variable {X : Cx}
def tRevT (K : PySem.W.Frag) (te : TE) : TE := fun σ H Q => te σ H fun x H1 => ∃ a xs, x = .ref a ∧ SqT K H1 a xs ∧ ∀ p, H1 p = none → Q (.ref p) (upd H1 p (.tup xs.reverse))
theorem pe_revT {e : Expr} {te : TE} {k : Nat} {p1 p2 p3 pos : Pos} (he : PE X e te) : PE X (.Subscript e (.Slice none none (some (.UnaryOp .USub (.Constant (.int 1) k p1) p2)) p3) pos) (tRevT X.K te) := by
  refine ⟨fun pins s σ H Q I h => ?_⟩
  refine Subscript_ (thn (he.run pins s σ H _ I h) fun v s1 ⟨x, H1, I1, r1, a, xs, ex, hx, q⟩ => ?_)
  subst ex
  cases r1
  have hst : PO X (some (.UnaryOp .USub (.Constant (.int 1) k p1) p2)) (tPart (tUn (rU fun i => .int (-i)) (tC (.int 1)))) := po_some (pe_un un_neg pe_int)
  refine wpAny_Slice (thn (po_none.run pins s1 σ H1 (fun o H2 => o = none ∧ H2 = H1) I1 ⟨rfl, rfl⟩) fun vl s2 ⟨l, H2, I2, pl, el, e2⟩ => ?_)
  subst el e2
  refine thn (po_none.run pins s2 σ H2 (fun o H3 => o = none ∧ H3 = H2) I2 ⟨rfl, rfl⟩) fun vu s3 ⟨u, H3, I3, pu, eu, e3⟩ => ?_
  subst eu e3
  refine thn (hst.run pins s3 σ H3 (fun o H4 => o = some (-1) ∧ H4 = H3) I3 ⟨1, rfl, -1, rfl, rfl, rfl⟩) fun vs s4 ⟨o, H4, I4, ps, eo, e4⟩ => ?_
  subst eo e4
  cases pl
  cases pu
  have I5 : Inv X pins σ H4 { s4 with heap := s4.heap.push { cls := .type "slice", data := .fields #[.none, .none, vs] } } := I4.kept (t' := s4.toks) fun b ob z => Heap.get?_push_of_some _ z
  obtain ⟨its, r, ht, hz⟩ := I5.tuple hx
  show wpAny (model X.prog X.w) X.A (subscriptTail e (.Slice none none (some (.UnaryOp .USub (.Constant (.int 1) k p1) p2)) p3) (.ref a) (.ref s4.heap.objs.size)) (EP X pins σ Q) X.xe { s4 with heap := s4.heap.push { cls := .type "slice", data := .fields #[.none, .none, vs] } }
  refine tail_any (ops := [.ref a, .ref s4.heap.objs.size]) ht.typeIs (PyProof.Rows.slot_tuple_getitem.lookup) ?_ (by with_unfolding_all rfl)
  refine back_item ht (Heap.IsSliceOf.new _ .none .none vs) ps (by rw [List.size_toArray, ← r.length]; exact hz) ?_
  refine ⟨.ref _, _, I5.laid (t' := s4.toks) (o := .tup xs.reverse) (fun b ob z => Heap.get?_push_of_some _ z) (Nat.le_refl _) ?_, rfl, q _ (I5.hok.fresh (Nat.le_refl _))⟩
  refine ⟨by rw [List.length_reverse]; exact hz, its.reverse, r.reverse, ?_⟩
  rw [List.toList_toArray]
  exact IsTup.new _ _
theorem cr_sortedT (hu : X.A.units + 64 < cLine) : CallR X (.builtin "sorted") (fun vs H Q => ∃ (a : Addr) (xs : List Str), vs = [.ref a] ∧ SqT X.K H a (xs.map V.str) ∧ xs.length ≤ 100000 ∧ ∀ p, H p = none → Q (.ref p) (upd H p (.lst ((xs.mergeSort strLe).map V.str)))) := by
  intro pins s σ H vs us Q I r h
  obtain ⟨a, xs, rfl, hs, hl, q⟩ := h
  obtain ⟨its, rv, ht, hz⟩ := I.tuple hs
  rw [Vals.ref1 r]
  refine sorted_tupS (ks := xs) ht (by rw [List.toList_toArray]; exact strs_of_vals rv) (by rw [List.size_toArray, ← rv.length, List.length_map]; exact hl) hu fun h1 h' out c k1 k2 hget hst => ?_
  have I1 := I.kept (t' := s.toks) k1
  refine ⟨.ref h1.objs.size, _, I1.laid (t' := s.toks) (o := .lst ((xs.mergeSort strLe).map V.str)) k2 (Nat.le_refl _) ⟨?_, out.toList, c, vals_of_strs hst, hget⟩, rfl, q _ (I1.hok.fresh (Nat.le_refl _))⟩
  rw [List.length_map, List.length_mergeSort]
  exact Nat.le_trans hl (by decide)
end
end Hid

namespace Hid
open PySem PySem.Spec PyProof.Rows L2 Evl
theorem map_range_getD' {α : Type} (l : List α) (d : α) : (List.range l.length).map (fun n => l.getD n d) = l := by
  apply List.ext_getElem?
  intro n
  by_cases h : n < l.length
  · rw [List.getElem?_map, List.getElem?_range h, List.getElem?_eq_getElem h]
    simp [List.getD_eq_getElem?_getD, h]
  · rw [List.getElem?_eq_none (by rw [List.length_map, List.length_range]; omega), List.getElem?_eq_none (by omega)]
section
variable {K : PySem.W.Frag} {σ : L2.St} {H H' : Hp} {ta tb tc te tl : TE} {t : TT}
theorem u1 {k : Nat} {A : Around} (r : Room k A) : A.units + 1 < cLine := by have := r.un; omega
theorem ev_lenT {p : Addr} {xs : List V} (ha : Ev ta σ H (.ref p)) (h : SqT K H p xs) : Ev (tCB (rLenS K) (tCons ta tNil)) σ H (.int (xs.length : Int)) := fun H1 e Q q =>
  ha H1 e _ fun H2 e2 => ⟨p, xs, rfl, .inr (ex_t (e.trans e2) h), q H2 e2⟩
theorem ev_lenS {w : Str} (ha : Ev ta σ H (.str w)) (hw : w.length ≤ 100000) : Ev (tCB (fun xs H Q => ∃ z, xs = [V.str z] ∧ z.length ≤ sizeLine ∧ Q (.int z.length) H) (tCons ta tNil)) σ H (.int (w.length : Int)) := fun H1 e Q q =>
  ha H1 e _ fun H2 e2 => ⟨w, rfl, sz_of hw, q H2 e2⟩
def rTupOf (K : PySem.W.Frag) : List V → Hp → VK → Prop := fun xs H Q => ∃ p ys, xs = [.ref p] ∧ ((SqL K H p ys ∧ ∀ l, H l = none → Q (.ref l) (upd H l (.tup ys))) ∨ (SqT K H p ys ∧ Q (.ref p) H))
theorem eu_tupOf {xs : List V} (h : EvL tl σ H xs) : EvU (tCB (rTupOf K) (tCons tl tNil)) σ H xs := fun H1 e Q q =>
  h H1 e _ fun p H2 hp e2 h2 => ⟨p, xs, rfl, .inl ⟨sq_of h2, fun l hl => q l _ (fresh_back e2 hl) (e2.trans (Ex.new hl)) upd_same⟩⟩
theorem eu_tupOfV {p : Addr} {xs : List V} (h : Ev tl σ H (.ref p)) (hs : SqL K H p xs) : EvU (tCB (rTupOf K) (tCons tl tNil)) σ H xs := fun H1 e Q q =>
  h H1 e _ fun H2 e2 => ⟨p, xs, rfl, .inl ⟨ex_l (e.trans e2) hs, fun l hl => q l _ (fresh_back e2 hl) (e2.trans (Ex.new hl)) upd_same⟩⟩
theorem rv_catS {a b : Str} (ha : a.length ≤ 1000) (hb : b.length ≤ 1000) : RV (fun x y H Q => ∃ i j, x = .str i ∧ y = .str j ∧ i.length + j.length ≤ sizeLine ∧ Q (.str (i ++ j)) H) (.str a) (.str b) H (.str (a ++ b)) := fun H1 e Q q =>
  ⟨a, b, rfl, rfl, sz_of (by omega), q H1 (Ex.refl _)⟩
theorem rv_notN {x : V} : RV (fun x y H Q => y = .non ∧ Q (.bl (!decide (x = .non))) H) x .non H (.bl (!decide (x = .non))) := fun H1 _ _ q => ⟨rfl, q H1 (Ex.refl _)⟩
theorem rv_isN {x : V} : RV (fun x y H Q => y = .non ∧ Q (.bl (decide (x = .non))) H) x .non H (.bl (decide (x = .non))) := fun H1 _ _ q => ⟨rfl, q H1 (Ex.refl _)⟩
theorem el_slN {xs : List V} {tl th : TO} {lo hi : Option Int} (h : EvL te σ H xs) (h1 : EvO tl σ H lo) (h2 : EvO th σ H hi) : EvL (tSl (rSlL K) te tl th) σ H (cutV xs lo hi) := fun H1 e Q q =>
  h H1 e _ fun p H2 hp e2 hx => h1 H2 (e.trans e2) _ fun H3 e3 => h2 H3 ((e.trans e2).trans e3) _ fun H4 e4 => ⟨p, xs, rfl, sq_of (e4 _ _ (e3 _ _ hx)), fun r hr =>
    q r _ (fresh_back (e2.trans (e3.trans e4)) hr) ((e2.trans (e3.trans e4)).trans (Ex.new hr)) upd_same⟩
theorem ev_slS {w : Str} {tl th : TO} {lo hi : Option Int} (h : Ev te σ H (.str w)) (h1 : EvO tl σ H lo) (h2 : EvO th σ H hi) (hw : w.length ≤ 100000) : Ev (tSl rSlS te tl th) σ H (.str (cutS w lo hi)) := fun H1 e Q q =>
  h H1 e _ fun H2 e2 => h1 H2 (e.trans e2) _ fun H3 e3 => h2 H3 ((e.trans e2).trans e3) _ fun H4 e4 => ⟨w, rfl, sz_of hw, q H4 (e2.trans (e3.trans e4))⟩
theorem el_lcT {a : Addr} {xs : List V} {tl : TE} {j : Nat} {vs : List Nat} (f : Nat → Bool) (v : Nat → V) (h : Ev tl σ H (.ref a)) (hx : SqT K H a xs) (hz : xs.length ≤ 40000) (hw : ∀ x, wipe ((wipe σ vs).set j (some x)) vs = wipe σ vs)
    (ht : ∀ (i : Nat) (x : V) H1, Ex H H1 → xs[i]? = some x → EvT t ((wipe σ vs).set j (some x)) H1 (f i)) (he : ∀ (i : Nat) (x : V) H1, Ex H H1 → xs[i]? = some x → f i = true → Ev te ((wipe σ vs).set j (some x)) H1 (v i)) :
    EvL (tLc (iTup K tl) (gName j) t te vs) σ H (given xs.length f v) := fun H0 e Q q => h H0 e _ fun H1 e1 => ⟨a, rfl, ⟨xs, ex_t (e.trans e1) hx⟩, fun Dl hD =>
  lc_tup (xs := xs) (Cw H1 f v Dl) ⟨hD, Ex.new hD, upd_same⟩ (fun i H' _ p => ex_t ((e.trans e1).trans p.2.1) hx) (fun i x H' hi p => ⟨hw x, cw_turn p (by have := (List.getElem?_eq_some_iff.mp hi).1; omega) (ht i x H1 (e.trans e1) hi) (fun hf => he i x H1 (e.trans e1) hi hf)⟩)
    (fun H' p => q Dl H' (fresh_back e1 p.1) (e1.trans p.2.1) p.2.2)⟩
/-! values told by a word that stays -/
def EvP (te : TE) (σ : L2.St) (H : Hp) (P : V → Hp → Prop) : Prop := ∀ H1, Ex H H1 → ∀ Q : VK, (∀ v H2, Ex H1 H2 → P v H2 → Q v H2) → te σ H1 Q
def EvPs (ta : TA) (σ : L2.St) (H : Hp) (P : List V → Hp → Prop) : Prop := ∀ H1, Ex H H1 → ∀ Q : List V → Hp → Prop, (∀ v H2, Ex H1 H2 → P v H2 → Q v H2) → ta σ H1 Q
def TupV (K : PySem.W.Frag) (xs : List V) (v : V) (H : Hp) : Prop := ∃ a, v = .ref a ∧ SqT K H a xs
theorem TupV.ex {xs : List V} {v : V} (e : Ex H H') (h : TupV K xs v H) : TupV K xs v H' := let ⟨a, h1, h2⟩ := h; ⟨a, h1, ex_t e h2⟩
abbrev TupVs (K : PySem.W.Frag) (xss : List (List V)) (vs : List V) (H : Hp) : Prop := Paired (fun v xs => TupV K xs v H) vs xss
theorem eps_nil : EvPs tNil σ H (TupVs K []) := fun H1 _ Q q => q [] H1 (Ex.refl _) .nil
theorem eps_cons {ts : TA} {xs : List V} {xss : List (List V)} (h : EvP ta σ H (TupV K xs)) (hr : EvPs ts σ H (TupVs K xss)) : EvPs (tCons ta ts) σ H (TupVs K (xs :: xss)) := fun H1 e Q q =>
  h H1 e _ fun v H2 e2 hv => hr H2 (e.trans e2) _ fun vs H3 e3 hvs => q _ H3 (e2.trans e3) (.cons (hv.ex e3) hvs)
theorem ep_var {a : Addr} {xs : List V} (h : Ev te σ H (.ref a)) (hs : SqT K H a xs) : EvP te σ H (TupV K xs) := fun H1 e Q q => h H1 e _ fun H2 e2 => q _ H2 e2 ⟨a, rfl, ex_t (e.trans e2) hs⟩
theorem ep_new {xs : List V} (h : EvU te σ H xs) : EvP te σ H (TupV K xs) := fun H1 e Q q => h H1 e _ fun p H2 hp e2 h2 => q _ H2 e2 ⟨p, rfl, st_of h2⟩
theorem ep_rev {a : Addr} {xs : List V} (h : Ev te σ H (.ref a)) (hs : SqT K H a xs) : EvP (tRevT K te) σ H (TupV K xs.reverse) := fun H1 e Q q =>
  h H1 e _ fun H2 e2 => ⟨a, xs, rfl, ex_t (e.trans e2) hs, fun p hp => q _ _ (e2.trans (Ex.new hp)) ⟨p, rfl, st_of upd_same⟩⟩
theorem cut_whole {xs : List V} {lo hi : Option Int} (h : HT.sIx xs.length 0 lo = 0 ∧ HT.sIx xs.length xs.length hi = xs.length) : cutV xs lo hi = xs := by
  unfold cutV
  rw [h.1, h.2, List.drop_zero, Nat.sub_zero, List.take_length]
theorem ep_sl {a : Addr} {xs : List V} {tl th : TO} {lo hi : Option Int} (h : Ev te σ H (.ref a)) (hs : SqT K H a xs) (h1 : EvO tl σ H lo) (h2 : EvO th σ H hi) : EvP (tSl (rSlA K) te tl th) σ H (TupV K (cutV xs lo hi)) := fun H1 e Q q =>
  h H1 e _ fun H2 e2 => h1 H2 (e.trans e2) _ fun H3 e3 => h2 H3 ((e.trans e2).trans e3) _ fun H4 e4 => by
    have e14 : Ex H1 H4 := e2.trans (e3.trans e4)
    refine ⟨a, xs, rfl, ex_t (e.trans e14) hs, fun hw => q _ H4 e14 ⟨a, rfl, ?_⟩, fun _ p hp => q _ _ (e14.trans (Ex.new hp)) ⟨p, rfl, st_of upd_same⟩⟩
    rw [cut_whole hw]
    exact ex_t (e.trans e14) hs
theorem ep_cat {xs ys : List V} (ha : EvP ta σ H (TupV K xs)) (hb : EvP tb σ H (TupV K ys)) (hl : xs.length + ys.length ≤ 100000) : EvP (tOp (rCatA K) ta tb) σ H (TupV K (xs ++ ys)) := fun H1 e Q q =>
  ha H1 e _ fun v H2 e2 ⟨a, ea, sa⟩ => hb H2 (e.trans e2) _ fun w H3 e3 ⟨b, eb, sb⟩ => by
    subst ea eb
    refine ⟨a, b, xs, ys, rfl, rfl, ex_t e3 sa, sb, sz_of hl, fun hx => ?_, fun _ hy => ?_, fun _ _ p hp => q _ _ ((e2.trans e3).trans (Ex.new hp)) ⟨p, rfl, st_of upd_same⟩⟩
    · subst hx
      exact q _ H3 (e2.trans e3) ⟨b, rfl, sb⟩
    · subst hy
      rw [List.append_nil] at q
      exact q _ H3 (e2.trans e3) ⟨a, rfl, ex_t e3 sa⟩
theorem ep_rep {a : Addr} {xs : List V} {k : Int} (ha : Ev ta σ H (.ref a)) (hs : SqT K H a xs) (hb : Ev tb σ H (.int k)) (h0 : xs ≠ []) (hk : 2 ≤ k ∧ k ≤ 1000) (hl : xs.length ≤ 1000) : EvP (tOp (rRepT K) ta tb) σ H (TupV K (List.replicate k.toNat xs).flatten) := fun H1 e Q q =>
  ha H1 e _ fun H2 e2 => hb H2 (e.trans e2) _ fun H3 e3 => ⟨a, k, xs, rfl, rfl, ex_t ((e.trans e2).trans e3) hs, h0, hk.1, hk.2, hl, fun p hp => q _ _ ((e2.trans e3).trans (Ex.new hp)) ⟨p, rfl, st_of upd_same⟩⟩
/-! what is told of a crossing -/
def ResF (H : Hp) (v : V) : Option (List Str) → Prop
  | none => v = .non
  | some F => ∃ q, v = .ref q ∧ H q = some (.tup (F.map V.str))
def ResX (H : Hp) (v : V) : Option (Nat × Nat × List Str) → Prop
  | none => v = .non
  | some (i, j, F) => ∃ p q, v = .ref p ∧ H p = some (.tup [.int i, .int j, .ref q]) ∧ H q = some (.tup (F.map V.str))
theorem ResX.ex {v : V} : ∀ {r : Option (Nat × Nat × List Str)}, Ex H H' → ResX H v r → ResX H' v r
  | none, _, h => h
  | some (i, j, F), e, h => let ⟨p, q, h1, h2, h3⟩ := h; ⟨p, q, h1, e _ _ h2, e _ _ h3⟩
def dX : Option (Nat × Nat × List Str) → PyData
  | none => .none
  | some (i, j, F) => .tuple [.int i, .int j, .tuple (F.map PyData.str)]
theorem strs_dp : ∀ F : List Str, DpAll K H (F.map V.str) (F.map PyData.str)
  | [] => .nil
  | x :: F => .cons (.str x) (strs_dp F)
theorem ResX.dp {v : V} : ∀ {r : Option (Nat × Nat × List Str)}, ResX H v r → Dp K H v (dX r)
  | none, h => by
    cases h
    exact .non
  | some (i, j, F), h => by
    obtain ⟨p, q, rfl, h2, h3⟩ := h
    exact .tup (st_of h2) (.cons (.int _) (.cons (.int _) (.cons (.tup (st_of h3) (strs_dp F)) .nil)))
theorem four_shape {rs : List Str} {i j : Nat} {F : List Str} (h : four rs i j = some F) : ∃ a b c d, F = [a, b, c, d] := by
  unfold four at h
  split at h
  · cases h
    exact ⟨_, _, _, _, rfl⟩
  · cases h
theorem four_mem {rs : List Str} {i j : Nat} {F : List Str} (h : four rs i j = some F) : ∀ x ∈ F, x ∈ rs := by
  unfold four at h
  split at h
  · rename_i a b c d h1 h2 h3 h4
    cases h
    have g : ∀ {p : Str} {y : Str}, fstAt rs i j p = some y → y ∈ rs := fun e => List.mem_of_find?_eq_some e
    intro x hx
    simp only [List.mem_cons, List.not_mem_nil, or_false] at hx
    rcases hx with rfl | rfl | rfl | rfl
    · exact g h1
    · exact g h2
    · exact g h3
    · exact g h4
  · cases h
theorem strOk_sm {l : List Nat} (h : ∀ c ∈ l, c < 200) : PyData.strOk (tx l) = true := by
  unfold PyData.strOk; rw [Array.all_eq_true]; intro i hi
  have hi' : i < l.length := by simpa [tx] using hi
  have := h l[i] (List.getElem_mem hi')
  exact decide_eq_true (by show l[i] < 0x110000; omega)
theorem half_strOk {m : Nat} {h : Str} (hh : HalfS m h) : PyData.canLay0 (.str h) = true := by
  have e : h = tx h.cps.toList := by cases h; simp [tx]
  rw [e]
  simp [PyData.canLay0]
  exact strOk_sm fun c hc => by rcases hh.2 c hc with z | z <;> omega
theorem dX_shaped {rs : List Str} {m m2 : Nat} (hr : ∀ h ∈ rs, HalfS m2 h) : ∀ {r : Option (Nat × Nat × List Str)}, IsCross (four rs) m r → SeqAt.shaped (dX r) = true
  | none, _ => rfl
  | some (i, j, F), h => by
    have hm := four_mem h.2.2.1
    obtain ⟨a, b, c, d, rfl⟩ := four_shape h.2.2.1
    have g : ∀ x ∈ [a, b, c, d], PyData.canLay0 (.str x) = true := fun x hx => half_strOk (hr x (hm x hx))
    have ga := g a (by simp)
    have gb := g b (by simp)
    have gc := g c (by simp)
    have gd := g d (by simp)
    unfold SeqAt.shaped
    simp only [PyData.canLay0] at ga gb gc gd
    simp [dX, PyData.canLay0, PyData.canLayAll0, PyData.depth, PyData.depthAll, ga, gb, gc, gd]
end
end Hid

namespace Hid
open PySem PySem.Spec PyProof.Rows L2
/-! a code object's table, held by its form -/
def TabOk (P : Addr) (h : Heap) : Prop := ∃ ps : Array Value, h.get? P = some (PySem.W.tabObj ps) ∧ TriplesOk ps.toList
def TabX (P : Addr) : HO := .ext (TabOk P)
theorem tabX_ok {Pr : Program} {w : World} {H : Hp} {h : Heap} {P : Addr} (x : TabOk P h) : ObjOk Pr w H h P (TabX P) := by
  obtain ⟨ps, e, t⟩ := x
  exact ⟨⟨ps, e, t⟩, ⟨_, e⟩, fun h1 h2 p k => let ⟨ps, e, t⟩ := p; ⟨ps, k _ e, t⟩⟩
theorem upd_id {H : Hp} {a : Addr} {o : HO} (h : H a = some o) : upd H a o = H := by
  funext b
  by_cases e : b = a
  · rw [e, upd_same, h]
  · exact upd_ne e
section
variable {X : Cx} {pins : List (Addr × Obj)} {σ : L2.St} {H : Hp} {s : Shared}
theorem inv_code {P : Addr} {h' : Heap} {t : Nat} (I : Inv X pins σ H s) (hP : H P = some (TabX P)) (k : ∀ b o, b ≠ P → s.heap.get? b = some o → h'.get? b = some o) (hn : TabOk P h') : Inv X pins σ H { s with heap := h', toks := t } := by
  have J := I.write (x := P) (e := P) (o := TabX P) (h' := h') (t' := t) (by rw [hP]; trivial) (.inl rfl) k (let ⟨_, e, _⟩ := hn; ⟨_, e⟩) (tabX_ok hn)
  rwa [upd_id hP] at J
/-- the context of a generator expression's own frame -/
abbrev gx (X : Cx) (s : Shared) (H : Hp) (A' : Around) (cenv : Env) (fp : List Addr) (pn : List (Addr × Obj)) : Cx :=
  { X with A := A', s_0 := s, H_0 := H, env := cenv, outer := X.stack, stack := cenv :: X.stack, ex := fp, fn := fun _ => false, pn := pn, xe := fun _ _ => False }
/-- it stands at its start -/
theorem gx_start {scope : Scope} {own : List (Str × Nat)} {fp : List Addr} {A' : Around} {code : Value} {s6 : Shared} {a : Addr} {go : Obj} {m0 : Str → Option Value} (I : Inv X pins σ H s) (hN : X.N.Nodup) (ok : BlkOk X.N X.env.scope scope own) (hnc : ∀ y ∈ scope.names, y.2 ≠ .cell)
    (hfp : ∀ b ∈ fp, FpOk X pins H b ∧ b < s.heap.objs.size) (hA : A'.handled = none) (hF : A'.frames = some (genEnv scope (cloFrom X.env.cells scope.names []) s.heap.objs.size code builtinsNs X.env :: X.stack))
    (kp : ∀ b o, s.heap.get? b = some o → s6.heap.get? b = some o) (hns : s6.heap.Ns s.heap.objs.size m0) (hos : s6.os = s.os) (hb : AllBare s6.gens) (ha : s.heap.objs.size < a) (hgo : s6.heap.get? a = some go) (hgc : ∀ v, go.data ≠ .cell v) :
    Inv (gx X s H A' (genEnv scope (cloFrom X.env.cells scope.names []) s.heap.objs.size code builtinsNs X.env) fp [(a, go)]) [] (wipe σ (own.map (·.2))) H s6 := by
  have hcl : ∀ {y c}, (cloFrom X.env.cells scope.names []).lookup y = some c → scope.names.lookup y = some .free ∧ X.env.cells.lookup y = some c := fun {y c} e => by
    rcases cloFrom_mem (PySem.mem_of_lookup e) with z | ⟨z, hc⟩
    · cases z
    · refine ⟨ok.uniq _ z, ?_⟩
      have hx : ∃ d, X.env.cells.lookup y = some d := by
        rcases ok.free _ z rfl with q | q
        · exact I.ok.has _ (.inl q)
        · exact I.ok.has _ (.inr q)
      obtain ⟨d, hd⟩ := hx
      rw [hc, hd]
      rfl
  have hfr : ∀ {y}, scope.names.lookup y = some .free → ∃ c, (cloFrom X.env.cells scope.names []).lookup y = some c := fun {y} e => mem_lookup (cloFrom_has (PySem.mem_of_lookup e))
  have hcs : ∀ {y c}, X.env.cells.lookup y = some c → c < s.heap.objs.size := fun {y c} e => by
    obtain ⟨v, z⟩ := I.cell y c e
    exact z.lt
  have okG : (gx X s H A' (genEnv scope (cloFrom X.env.cells scope.names []) s.heap.objs.size code builtinsNs X.env) fp [(a, go)]).Ok := by
    refine ⟨I.ok.mod, ok.kind, I.ok.glob, rfl, Nat.le_refl _, fun y z c e1 e2 => I.ok.inj y z c (hcl e1).2 (hcl e2).2, fun y hy => ?_, (fun y c z => Bool.noConfusion (show false = true from z)), fun _ => hA, hF, .inr ⟨rfl, rfl⟩, fun b hb => ⟨Nat.ne_of_lt (hfp b hb).2, fun y c e => ?_⟩,
      I.bs, Nat.le_trans I.ok.bsz I.sz, fun b o e hb => ?_, fun b hb z => ?_, I.stack, I.stkFree⟩
    · rcases hy with hy | hy
      · exact absurd rfl (hnc _ (PySem.mem_of_lookup (show scope.names.lookup y = _ from hy)))
      · exact hfr hy
    · obtain ⟨_, _, _, _, f5, _⟩ := (hfp b hb).1
      exact f5 y c (hcl e).2
    · obtain ⟨_, _, _, f4, _, _⟩ := (hfp b hb).1
      rcases f4 with z | z
      · exact I.ok.noex b o e z
      · have h1 := Heap.lt_size e
        have h2 := I.ok.bsz
        exact Nat.lt_irrefl _ (Nat.lt_of_lt_of_le h1 (Nat.le_trans h2 z))
    · obtain ⟨_, f2, f3, _, _, _⟩ := (hfp b hb).1
      rcases List.mem_cons.mp (I.stkSub b z) with q | q
      · exact f2 q
      · exact f3 q
  have hCn : H s.heap.objs.size = none := I.hok.fresh (Nat.le_refl _)
  refine ⟨okG, hos, hb, Un.kept kp, ⟨m0, hns, fun i y av e1 e2 e3 => ?_⟩, fun y c e => ?_, hCn, fun y c e => I.freeC y c (hcl e).2, fun p hp => ?_, I.hok.kept kp, by rw [wipe_length]; exact I.len⟩
  · obtain ⟨e2, hne⟩ := wipe_some e2
    have e3' : Vis scope y := e3
    have hfree : scope.names.lookup y = some .free := by
      have no : ∀ k, (k = NameKind.local ∨ k = .cell) → scope.names.lookup y = some k → False := fun k hk e => by
        rcases ok.own _ (PySem.mem_of_lookup e) hk with q | q
        · obtain ⟨p, hp, hpy⟩ := List.mem_map.mp q
          have e5 := ok.ix p hp
          rw [show p.1 = y from hpy] at e5
          exact hne (List.mem_map.mpr ⟨p, hp, nodup_ix hN e5 e1⟩)
        · exact q (List.mem_of_getElem? e1)
      rcases e3' with q | q | q
      · exact (no _ (.inl rfl) q).elim
      · exact (no _ (.inr rfl) q).elim
      · exact q
    obtain ⟨m, _, hl⟩ := I.loc
    have up := ok.free _ (PySem.mem_of_lookup hfree) rfl
    obtain ⟨w, r, q⟩ := hl i y av e1 e2 (up.elim (fun k => .inr (.inl k)) fun k => .inr (.inr k))
    obtain ⟨c, hc⟩ := hfr hfree
    refine ⟨w, r, .inr ⟨.inr hfree, c, hc, ?_⟩⟩
    rcases q with ⟨k, _⟩ | ⟨_, c', e', z⟩
    · have k' : X.env.scope.names.lookup y = some .local := k
      rcases up with u | u <;> rw [show X.env.scope.names.lookup y = _ from u] at k' <;> cases k'
    · rw [(hcl hc).2] at e'
      cases e'
      exact z.keeps kp
  · obtain ⟨w, z⟩ := I.cell y c (hcl e).2
    exact ⟨w, z.keeps kp⟩
  · have : p = (a, go) := by simpa using hp
    subst this
    exact ⟨hgo, I.hok.fresh (Nat.le_of_lt ha), Nat.ne_of_gt ha, fun z => by
      rcases List.mem_cons.mp (I.stkSub a z) with q | q
      · have := I.lt
        rw [← q] at this
        exact Nat.lt_irrefl _ (Nat.lt_trans this ha)
      · exact I.nofs (Nat.le_of_lt ha) q, hgc⟩
end
end Hid

namespace Hid
open PySem PySem.Spec PyProof.Rows L2
/-- nothing but the generators' table and the tokens are other -/
def Near (s s' : Shared) : Prop := ∃ g t, s' = { s with gens := g, toks := t } ∧ AllBare g
theorem Near.trans {s s' s'' : Shared} (a : Near s s') (b : Near s' s'') : Near s s'' := by
  obtain ⟨g, t, rfl, _⟩ := a
  obtain ⟨g2, t2, rfl, h⟩ := b
  exact ⟨g2, t2, rfl, h⟩
theorem near_set {s : Shared} {g : Nat} {x : GenState} (h : AllBare s.gens) (hx : x.bare = true) : Near s (s.setGen g x) := ⟨_, s.toks, rfl, allBare_setGen h hx⟩
theorem inv_near {X : Cx} {pins : List (Addr × Obj)} {σ : L2.St} {H : Hp} {s s' : Shared} (I : Inv X pins σ H s) (n : Near s s') : Inv X pins σ H s' := by
  obtain ⟨g, t, rfl, h⟩ := n
  exact I.call' (ch := []) rfl Un.refl I.hok h fun b z => nomatch z
section
variable {X : Cx}
/-- what is left of a generator expression: handed out truths b; b = cont goes on, else QE; at the end QD -/
def gxR (X : Cx) (σ : L2.St) (QD : Hp → Prop) : Nat → Shared → Shared → Prop := fun _ _ s₁ => ∃ H', Inv X [] σ H' s₁ ∧ QD H'
def gxY (X : Cx) (cont : Bool) (QE : Hp → Prop) : Protocol := fun n s₀ v s kap => ∃ (b : Bool) (σ' : L2.St) (pins : List (Addr × Obj)) (H' : Hp), v = .bool b ∧ Inv X pins σ' H' s ∧ (b = cont → ∀ s'', Near s s'' → kap (.send .none) s'') ∧ (b ≠ cont → QE H')
theorem gx_loop {A : Around} {elt tg iter : Expr} {scope : Scope} {pos : Pos} {it : Addr} {J : It} {fp : List Addr} {tn : Nat → Heap → Prop} {σ : L2.St} {vs : List Nat} {g : TG} {te : TE} {cont : Bool} {QD QE : Hp → Prop} {W : Nat → Nat → Hp → Prop}
    (hA : A.over (.compLoop (.GeneratorExp elt [⟨tg, iter, [], 0⟩] scope pos) 0 (.ref it) .none X.env) [] = X.A) (hc : X.calm = true) (hpn : ∀ p ∈ X.pn, p.1 ∉ fp) (hex : X.ex = fp) (hxe : X.xe = fun _ _ => False) (hco : X.env.scope.isCoroutine = false)
    (T : Turn X.prog X.w X.K tg J fp it tn) (pg : PG X tg g) (pe : PE X elt te)
    (turn : ∀ i m H, W i m H → (J.stop i H ∧ QD H) ∨ (J.go i H ∧ ∃ Nx : Hp → Prop, (∀ H', Nx H' → ∃ m', m' < m ∧ W (i + 1) m' H') ∧ ∀ x H', J.yld i H x H' → g x (wipe σ vs) H' fun σ2 H2 => wipe σ2 vs = wipe σ vs ∧ te σ2 H2 fun y H3 => ∃ b, y = .bl b ∧ (b = cont → Nx H3) ∧ (b ≠ cont → QE H3))) :
    ∀ (m n i : Nat) (s₀ s : Shared) (H5 : Hp), m < n → Inv X [] (wipe σ vs) H5 s → tn i s.heap → (∀ b ∈ fp, H5 b = none) → W i m H5 →
      Seg (model X.prog X.w) A (fun n s₀ r s₁ => r = .ok .next ∧ gxR X (wipe σ vs) QD n s₀ s₁) (gxY X cont QE) n s₀ (.compLoop (.GeneratorExp elt [⟨tg, iter, [], 0⟩] scope pos) 0 (.ref it) .none X.env)
        ((model X.prog X.w).den (.compLoop (.GeneratorExp elt [⟨tg, iter, [], 0⟩] scope pos) 0 (.ref it) .none X.env)) [] s := by
  have fpok : ∀ {σ' : L2.St} {H' : Hp} {s' : Shared}, Inv X [] σ' H' s' → (∀ b ∈ fp, H' b = none) → ∀ b ∈ fp, FpOk X [] H' b := fun {σ' H' s'} I' hn b hb =>
    ⟨hn b hb, (I'.ok.exf b (hex ▸ hb)).1, I'.ok.exfs b (hex ▸ hb), .inl (hex ▸ hb), fun x c e => (I'.ok.exf b (hex ▸ hb)).2 x c e, fun p hp => by
      rw [List.append_nil] at hp
      exact fun z => hpn p hp (z ▸ hb)⟩
  intro m
  induction m using Nat.strongRecOn with
  | ind m ih =>
    intro n i s₀ s H5 hmn I st hn w
    show Seg _ A _ _ _ s₀ _ ((compTurn (.GeneratorExp elt [⟨tg, iter, [], 0⟩] scope pos) 0 (.ref it) .none X.env).onRaise (leaving X.env)) [] s
    rw [compTurn_gen, Sem.onRaise_eq_wrap]
    refine seg_bind_wrap (wpAny_standAt ?_)
    rcases turn i m H5 w with ⟨stop, qd⟩ | ⟨go, Nx, hNx, step⟩
    · refine seg_bind_wrap ?_
      rw [hA]
      refine wpAny_mono (T.done X rfl rfl rfl hc i [] s _ H5 (fun _ _ => False) I (fpok I hn) st stop) (fun r s1 ⟨hr, I1⟩ => ?_) fun _ _ z => z.elim
      subst hr
      exact seg_end (.ok .next) ⟨rfl, H5, I1, qd⟩
    · refine seg_bind_wrap ?_
      rw [hA]
      refine wpAny_mono (T.item X rfl rfl rfl hc i [] s _ H5 (fun _ _ => False) I (fpok I hn) st go) (fun r s1 ⟨u, hr, h1⟩ => ?_) fun _ _ z => z.elim
      subst hr
      refine seg_bind_wrap ?_
      rw [hA]
      refine wpAny_mono h1 (fun _ s2 ⟨x, H2, I2, r2, y2, st2, n2⟩ => ?_) fun _ _ z => z.elim
      have I2' := I2.pinned (fpok I2 n2) (T.obj _ _ st2)
      refine seg_bind_wrap ?_
      rw [hA]
      refine wpAny_mono (pg.run _ s2 _ H2 x u _ I2' r2 (step x H2 y2)) (fun _ s3 ⟨σ3, H3, I3, hw3, q3⟩ => ?_) fun _ _ z => by rw [hxe] at z; exact z.elim
      refine seg_bind_wrap (wpAny_tests_nil ?_)
      obtain ⟨n', rfl⟩ : ∃ n', n = n' + 1 := ⟨n - 1, by omega⟩
      have hy : ∀ v, yieldOut X.env v = yieldValue v := fun v => by simp only [yieldOut, hco, Bool.false_eq_true, if_false]
      simp only [if_true, hy]
      rw [Sem.bind_eq_wrap', Sem.bind_eq_wrap', Sem.wrap_wrap, Sem.wrap_wrap]
      refine seg_wrap ?_
      rw [hA]
      refine wpAny_mono (pe.run _ s3 σ3 H3 _ I3 q3) (fun z s4 ⟨yv, H4, I4, r4, b, hyb, qc, qe⟩ => ?_) fun _ _ z => by rw [hxe] at z; exact z.elim
      subst hyb
      obtain rfl : z = Value.bool b := r4
      refine seg_at (seg_yield rfl rfl rfl ⟨b, σ3, _, H4, rfl, I4, fun hb s'' near => ?_, qe⟩)
      obtain ⟨m', hm, w'⟩ := hNx H4 (qc hb)
      have I5 := inv_near I4 near
      have keepF : ∀ b ∈ fp, ∀ o, s2.heap.get? b = some o → s''.heap.get? b = some o ∧ H4 b = none := fun b hb o e =>
        let z := I5.pin (b, o) (List.mem_append_right _ (List.mem_append_right _ (mem_pinsAt hb e)))
        ⟨z.1, z.2.1⟩
      have hl : (wipe σ vs).length = σ3.length := by rw [← hw3, wipe_length]
      refine seg_again rfl (ih m' hm n' (i + 1) s'' s'' H4 (by omega) ((I5.unpinned (pins := [])).weak hl fun j v e => ?_) (T.keep _ _ _ st2 fun b hb o e => (keepF b hb o e).1) (fun b hb => ?_) w')
      · rw [← hw3] at e
        exact (wipe_some e).1
      · obtain ⟨o, e, _⟩ := T.obj _ _ st2 b hb
        exact (keepF b hb o e).2
/-- from the start -/
theorem gx_begin {A : Around} {elt tg iter : Expr} {scope : Scope} {pos : Pos} {it : Addr} {tn : Nat → Heap → Prop} {J : It} {fp : List Addr} {R : GenEnd} {Y : Protocol} {n : Nat} {s₀ s : Shared}
    (T : Turn X.prog X.w X.K tg J fp it tn) (st : tn 0 s.heap)
    (loop : Seg (model X.prog X.w) A R Y n s₀ (.compLoop (.GeneratorExp elt [⟨tg, iter, [], 0⟩] scope pos) 0 (.ref it) .none X.env) ((model X.prog X.w).den (.compLoop (.GeneratorExp elt [⟨tg, iter, [], 0⟩] scope pos) 0 (.ref it) .none X.env)) [] s) :
    Seg (model X.prog X.w) A R Y n s₀ (.compStart (.GeneratorExp elt [⟨tg, iter, [], 0⟩] scope pos) 0 (.ref it) .none X.env) ((model X.prog X.w).den (.compStart (.GeneratorExp elt [⟨tg, iter, [], 0⟩] scope pos) 0 (.ref it) .none X.env)) [] s := by
  show Seg _ A _ _ _ s₀ _ ((compStart (.GeneratorExp elt [⟨tg, iter, [], 0⟩] scope pos) 0 (.ref it) .none X.env).onRaise (leaving X.env)) [] s
  unfold compStart
  rw [Sem.onRaise_eq_wrap]
  show Seg _ A _ _ _ s₀ _ ((ask >>= _).wrap _ _ _ _) [] s
  refine seg_bind_wrap (wpAny_askSetting ?_)
  split
  · exact seg_again rfl loop
  · refine seg_bind_wrap (wpAny_rule ?_)
    show Seg _ A _ _ _ s₀ _ ((standAt iter.pos >>= _).wrap _ _ _ _) [] s
    exact seg_bind_wrap (wpAny_standAt (seg_bind_wrap (T.self _ 0 s _ _ st (seg_again rfl loop))))
end
end Hid

namespace Hid
open PySem PySem.Spec PyProof.Rows L2
section
variable {X : Cx} {G : Cx} {σ : L2.St} {QD QE : Hp → Prop} {a : Addr} {g : Nat} {go : Obj}
/-- the generator's object at a, number g: n and more turns may follow -/
def gxAt (G : Cx) (A : Around) (σ : L2.St) (cont : Bool) (QD QE : Hp → Prop) (a : Addr) (g n : Nat) (s : Shared) : Prop :=
  s.heap.IsGen a g ∧ s.heap.NoLimit ∧ AllBare s.gens ∧ ∃ gs, s.gens[g]? = some gs ∧ ∀ s'', Near s s'' → gs.Goes (model G.prog G.w) A.in1 (fun n s₀ r s₁ => r = .ok .next ∧ gxR G σ QD n s₀ s₁) (gxY G cont QE) n (.send .none) s''
theorem set_at {s : Shared} {x : GenState} (h : g + 1 ≤ s.gens.size) : (s.setGen g x).gens[g]? = some x := by
  have hlt : g < s.gens.size := h
  simp [Shared.setGen, hlt]
theorem gx_next {A : Around} {cont : Bool} {n : Nat} {s : Shared} {Q : Option Value → Shared → Prop} {E : Value → Shared → Prop} (hh : A.handled = none) (hroom : A.depth < recursionLimit) (hpn : (a, go) ∈ G.pn) (hgo : ∀ h : Heap, h.get? a = some go → h.IsGen a g) (h : gxAt G A σ cont QD QE a g n s)
    (hE : ∀ b σ' pins H' s₁ gs', b ≠ cont → Inv G pins σ' H' s₁ → QE H' → gs'.bare = true → Q (some (.bool b)) (s₁.setGen g gs'))
    (hC : ∀ s' n', n = n' + 1 → gxAt G A σ cont QD QE a g n' s' → Q (some (.bool cont)) s')
    (hD : ∀ s₁ h' H', Inv G [] σ H' s₁ → QD H' → (∀ b o, s₁.heap.get? b = some o → h'.get? b = some o) → Q none { s₁.setGen g .finished with heap := h' }) :
    wpAny (model G.prog G.w) A (pyNext (.ref a)) Q E s := by
  obtain ⟨hg, hl, hb, gs, hgs, goes⟩ := h
  have hsz : g + 1 ≤ s.gens.size := (Array.getElem?_eq_some_iff.mp hgs).1
  refine GenW.wpAny_gsz (n := g + 1) hsz ?_
  refine wpAny_pyNext_genexpQ (P := gxR G σ QD) hh hl hroom hg hgs (goes _ (near_set hb rfl)) (fun v s₁ gs' hb' hv hz => ?_) (fun s₁ hp h' hk hz => ?_)
  · obtain ⟨b, σ', pins, H', rfl, I1, hc, he⟩ := hv
    have hz1 : g + 1 ≤ s₁.gens.size := by rw [GenW.setGen_size] at hz; exact hz
    by_cases hbc : b = cont
    · subst hbc
      cases n with
      | zero => exact (hc rfl s₁ ⟨s₁.gens, s₁.toks, rfl, I1.bare⟩).elim
      | succ n' =>
        refine hC _ n' rfl ⟨hgo _ (I1.pin (a, go) (List.mem_append_left _ hpn)).1, I1.nolimit, allBare_setGen I1.bare hb', gs', set_at hz1, fun s'' near => ?_⟩
        exact hc rfl s'' ((near_set I1.bare hb').trans near)
    · exact hE b σ' pins H' s₁ gs' hbc I1 (he hbc) hb'
  · obtain ⟨H', I1, qd⟩ := hp
    exact hD s₁ h' H' I1 qd hk
theorem gx_all {A : Around} {R : Result → Shared → Prop} (hh : A.handled = none) (hroom : A.depth < recursionLimit) (hpn : (a, go) ∈ G.pn) (hgo : ∀ h : Heap, h.get? a = some go → h.IsGen a g)
    (hE : ∀ σ' pins H' s₁ gs', Inv G pins σ' H' s₁ → QE H' → gs'.bare = true → R (.ok (.ret (.bool false))) (s₁.setGen g gs'))
    (hD : ∀ s₁ h' H', Inv G [] σ H' s₁ → QD H' → (∀ b o, s₁.heap.get? b = some o → h'.get? b = some o) → R (.ok (.ret (.bool true))) { s₁.setGen g .finished with heap := h' }) :
    ∀ (n : Nat) (s : Shared), gxAt G A.in1 σ true QD QE a g n s → codeAny (model G.prog G.w) A (.builtin "all.loop" ⟨[.ref a], []⟩) R s := by
  intro n
  induction n with
  | zero =>
    intro s h
    refine codeAny_builtin F.entry_all_loop ?_
    rw [Around.under_plainId F.plain_all_loop _]
    refine wpAny_bind (m := pyNext (.ref a)) (gx_next (A := A.in1) hh hroom hpn hgo h (fun b σ' pins H' s₁ gs' hb I1 q hbr => ?_) (fun s' n' e _ => nomatch e) fun s₁ h' H' I1 q hk => wpAny_bind (wpAny_rule (wpAny_pure (hD s₁ h' H' I1 q hk))))
    refine wpAny_bind (wpAny_holding (wpAny_truthy_bool (wpAny_bind (wpAny_letGo ?_))))
    cases b with
    | true => exact absurd rfl hb
    | false =>
      simp only [Bool.false_eq_true, if_false]
      exact wpAny_bind (wpAny_rule (wpAny_pure (hE σ' pins H' s₁ gs' I1 q hbr)))
  | succ n ih =>
    intro s h
    refine codeAny_builtin F.entry_all_loop ?_
    rw [Around.under_plainId F.plain_all_loop _]
    refine wpAny_bind (m := pyNext (.ref a)) (gx_next (A := A.in1) hh hroom hpn hgo h (fun b σ' pins H' s₁ gs' hb I1 q hbr => ?_) (fun s' n' e h' => ?_) fun s₁ h' H' I1 q hk => wpAny_bind (wpAny_rule (wpAny_pure (hD s₁ h' H' I1 q hk))))
    · refine wpAny_bind (wpAny_holding (wpAny_truthy_bool (wpAny_bind (wpAny_letGo ?_))))
      cases b with
      | true => exact absurd rfl hb
      | false =>
        simp only [Bool.false_eq_true, if_false]
        exact wpAny_bind (wpAny_rule (wpAny_pure (hE σ' pins H' s₁ gs' I1 q hbr)))
    · cases e
      refine wpAny_bind (wpAny_holding (wpAny_truthy_bool (wpAny_bind (wpAny_letGo ?_))))
      simp only [if_true]
      exact wpAny_pure ⟨plainId_quiet F.plain_all_loop _, ih s' h'⟩
theorem gx_any {A : Around} {R : Result → Shared → Prop} (hh : A.handled = none) (hroom : A.depth < recursionLimit) (hpn : (a, go) ∈ G.pn) (hgo : ∀ h : Heap, h.get? a = some go → h.IsGen a g)
    (hE : ∀ σ' pins H' s₁ gs', Inv G pins σ' H' s₁ → QE H' → gs'.bare = true → R (.ok (.ret (.bool true))) (s₁.setGen g gs'))
    (hD : ∀ s₁ h' H', Inv G [] σ H' s₁ → QD H' → (∀ b o, s₁.heap.get? b = some o → h'.get? b = some o) → R (.ok (.ret (.bool false))) { s₁.setGen g .finished with heap := h' }) :
    ∀ (n : Nat) (s : Shared), gxAt G A.in1 σ false QD QE a g n s → codeAny (model G.prog G.w) A (.builtin "any.loop" ⟨[.ref a], []⟩) R s := by
  intro n
  induction n with
  | zero =>
    intro s h
    refine codeAny_builtin F.entry_any_loop ?_
    rw [Around.under_plainId F.plain_any_loop _]
    refine wpAny_bind (m := pyNext (.ref a)) (gx_next (A := A.in1) hh hroom hpn hgo h (fun b σ' pins H' s₁ gs' hb I1 q hbr => ?_) (fun s' n' e _ => nomatch e) fun s₁ h' H' I1 q hk => wpAny_bind (wpAny_rule (wpAny_pure (hD s₁ h' H' I1 q hk))))
    refine wpAny_bind (wpAny_holding (wpAny_truthy_bool (wpAny_bind (wpAny_letGo ?_))))
    cases b with
    | false => exact absurd rfl hb
    | true =>
      simp only [if_true]
      exact wpAny_bind (wpAny_rule (wpAny_pure (hE σ' pins H' s₁ gs' I1 q hbr)))
  | succ n ih =>
    intro s h
    refine codeAny_builtin F.entry_any_loop ?_
    rw [Around.under_plainId F.plain_any_loop _]
    refine wpAny_bind (m := pyNext (.ref a)) (gx_next (A := A.in1) hh hroom hpn hgo h (fun b σ' pins H' s₁ gs' hb I1 q hbr => ?_) (fun s' n' e h' => ?_) fun s₁ h' H' I1 q hk => wpAny_bind (wpAny_rule (wpAny_pure (hD s₁ h' H' I1 q hk))))
    · refine wpAny_bind (wpAny_holding (wpAny_truthy_bool (wpAny_bind (wpAny_letGo ?_))))
      cases b with
      | false => exact absurd rfl hb
      | true =>
        simp only [if_true]
        exact wpAny_bind (wpAny_rule (wpAny_pure (hE σ' pins H' s₁ gs' I1 q hbr)))
    · cases e
      refine wpAny_bind (wpAny_holding (wpAny_truthy_bool (wpAny_bind (wpAny_letGo ?_))))
      simp only [Bool.false_eq_true, if_false]
      exact wpAny_pure ⟨plainId_quiet F.plain_any_loop _, ih s' h'⟩
/-- back in the def -/
theorem gx_back {pins : List (Addr × Obj)} {τ : L2.St} {H H' : Hp} {s4 s1 s' : Shared} {A' : Around} {cenv : Env} {fp : List Addr} {pn pins' : List (Addr × Obj)} {σ' : L2.St} (I4 : Inv X pins τ H s4) (hfp : ∀ b ∈ fp, FpOk X pins H b) (IG : Inv (gx X s4 H A' cenv fp pn) pins' σ' H' s1)
    (kp : ∀ b o, s1.heap.get? b = some o → s'.heap.get? b = some o) (ho : s'.os = s1.os) (hb : AllBare s'.gens) : Inv X pins τ H' s' := by
  have Jb : Inv (gx X s4 H A' cenv fp pn) pins' σ' H' s' := IG.call' (ch := []) ho (Un.kept kp) (IG.hok.kept kp) hb fun b z => nomatch z
  exact I4.call' (ch := fp) Jb.os Jb.base Jb.hok Jb.bare fun b hb => let ⟨_, f2, _, f4, f5, f6⟩ := hfp b hb; ⟨f4, f2, f5, f6⟩
/-- all(..), any(..) of a generator expression -/
def tGx (cont : Bool) (P : Addr) (wi : TI) (g : TG) (te : TE) (vs : List Nat) : TE := fun σ H Q => wi σ H fun J H1 => H1 P = some (TabX P) ∧ ∃ W : Nat → Nat → Hp → Prop, (∃ m, W 0 m H1) ∧ ∀ i m H, W i m H → (J.stop i H ∧ Q (.bl cont) H) ∨ (J.go i H ∧ ∃ Nx : Hp → Prop, (∀ H', Nx H' → ∃ m', m' < m ∧ W (i + 1) m' H') ∧
  ∀ x H', J.yld i H x H' → g x (wipe σ vs) H' fun σ2 H2 => wipe σ2 vs = wipe σ vs ∧ te σ2 H2 fun y H3 => ∃ b, y = .bl b ∧ (b = cont → Nx H3) ∧ (b ≠ cont → Q (.bl (!cont)) H3))
theorem gx_room {k : Nat} {A : Around} {c : Code} (h : Room (k + 1) A) (hw : c.weight = 1) (hu : c.cUnits = 3) : Room k (A.in1.in1.over c []) := by
  refine ⟨h.hd, ?_, ?_⟩
  · have := h.dp
    show A.depth + 0 + c.weight + 3 * k + 5 < _
    omega
  · have := h.un
    show A.units + 1 + 1 + 0 + c.cUnits + 16 * k + 200 < _
    omega
theorem gx_make {c P : Addr} {elt tg iter : Expr} {scope : Scope} {own : List (Str × Nat)} {gpos : Pos} {wi : TI} {gg : TG} {te : TE} {k : Nat} {cont : Bool} {pins : List (Addr × Obj)} {τ : L2.St} {H : Hp} {s : Shared} {Q : VK} {Q' : Value → Shared → Prop}
    (hr : Room (k + 1) X.A) (hc : X.calm = true) (hN : X.N.Nodup) (TB : GxR.TabB X.base X.mg c P) (hcode : X.env.code = .ref c) (hi : PI X tg iter wi) (ok : BlkOk X.N X.env.scope scope own) (hdot : scope.names.lookup (".0" : Str) = some NameKind.local) (hnc : ∀ y ∈ scope.names, y.2 ≠ .cell) (hco : scope.isCoroutine = false)
    (hg : ∀ s H A' C cl code fp pn, PG (gx X s H A' (genEnv scope cl C code builtinsNs X.env) fp pn) tg gg) (he : ∀ s H A' C cl code fp pn, Room k A' → PE (gx X s H A' (genEnv scope cl C code builtinsNs X.env) fp pn) elt te) (hs : ∀ v, genFold iter X.env v = pure v)
    (I : Inv X pins τ H s) (h : tGx cont P wi gg te (own.map (·.2)) τ H Q)
    (hQ : ∀ (G : Cx) (σ : L2.St) (QD QE : Hp → Prop) (a : Addr) (g n : Nat) (go : Obj) (s5 : Shared), G.prog = X.prog → G.w = X.w → (a, go) ∈ G.pn → (∀ h : Heap, h.get? a = some go → h.IsGen a g) → gxAt G X.A.in1 σ cont QD QE a g n s5 →
      (∀ pins' σ' H' s1 s', Inv G pins' σ' H' s1 → (∀ b o, s1.heap.get? b = some o → s'.heap.get? b = some o) → s'.os = s1.os → AllBare s'.gens → Inv X pins τ H' s') → (∀ H', QD H' → Q (.bl cont) H') → (∀ H', QE H' → Q (.bl (!cont)) H') → Q' (.ref a) s5) :
    wpAny (model X.prog X.w) X.A (eval (.GeneratorExp elt [⟨tg, iter, [], 0⟩] scope gpos) X.env) Q' X.xe s := by
  have hfree : ∀ y ∈ scope.names, y.2 = .free → ∃ c, X.env.cells.lookup y.1 = some c := fun y hy e => (ok.free y hy e).elim (fun q => I.ok.has _ (.inl q)) fun q => I.ok.has _ (.inr q)
  refine wpAny_GeneratorExp_make hco (closure_ok hfree) hnc hdot ok.kind (by have := hr.dp; omega) ?_ hs
  refine thn (hi.run pins s τ H _ I h) fun xv s1 hx => thn hx fun itv s2 h2 => ?_
  obtain ⟨it, fp, tn, J, H2, e, I2, T, st2, f2, hP, W, ⟨m0, w0⟩, turn⟩ := h2
  subst e
  obtain ⟨ps, hPs, htr⟩ : TabOk P s2.heap := (I2.hok P _ hP).1
  have cd : PySem.W.CodeHd s2.heap c P := TB.code.keeps fun b u e => I2.bk b u e
  have nP : ∀ b ∈ fp, b ≠ P := fun b hb z => by
    have := (f2 b hb).1
    rw [z, hP] at this
    cases this
  refine ⟨I2.nolimit, ?_⟩
  have go_on : ∀ (code : Value) (h3 : Heap) (tk : Nat), (∀ b o, b ≠ P → s2.heap.get? b = some o → h3.get? b = some o) → s2.heap.objs.size ≤ h3.objs.size → TabOk P h3 → wpAny (model X.prog X.w) X.A (builtinsFor X.env.globals X.env.builtins) (fun bi s₄ =>
      ∀ h', h'.Ns s₄.heap.objs.size (fun y => if y = ".0" then some (.ref it) else none) → Heap.SameBut s₄.heap.objs.size (s₄.heap.push { cls := .type "frame", data := .dict #[] }) h' →
        Q' (.ref h'.objs.size) { s₄ with gens := s₄.gens.push (.fresh (.compStart (.GeneratorExp elt [⟨tg, iter, [], 0⟩] scope gpos) 0 (.ref it) .none (genEnv scope (cloFrom X.env.cells scope.names []) s₄.heap.objs.size code bi X.env))), toks := s₄.toks + 1 + 1 + 1, heap := h'.push { cls := .type "generator", data := .fields #[.int s₄.gens.size 0, .str "<genexpr>" (s₄.toks + 1), .str (X.env.qual ++ "<genexpr>") (s₄.toks + 1 + 1)] } }) X.xe { s2 with heap := h3, toks := tk } := by
    intro code h3 tk k3 sz3 t3
    have I3 : Inv X pins τ H2 { s2 with heap := h3, toks := tk } := inv_code I2 hP k3 t3
    have st3 : tn 0 h3 := T.keep _ _ _ st2 fun b hb o e => k3 b o (nP b hb) e
    obtain ⟨bm, ob, e1, e2, e3, e4, e5, e6, e7, e8⟩ := TB.bm
    refine wpAny_builtinsFor (m := X.mg) (by rw [I3.ok.glob]; exact I3.mod.glob.keeps I3.bk) e1 e2 (I3.bk _ _ e5) e6 e7 e8 ?_
    generalize hs3 : ({ s2 with heap := h3, toks := tk } : Shared) = s3 at I3 ⊢
    have st3' : tn 0 s3.heap := by rw [← hs3]; exact st3
    intro h' hn' hs'
    have szp : h'.objs.size = s3.heap.objs.size + 1 := by rw [hs'.1, Heap.size_push]
    generalize hgo : ({ cls := .type "generator", data := .fields #[.int s3.gens.size 0, .str "<genexpr>" (s3.toks + 1), .str (X.env.qual ++ "<genexpr>") (s3.toks + 1 + 1)] } : Obj) = go
    have isg : ∀ h : Heap, h.get? h'.objs.size = some go → h.IsGen h'.objs.size s3.gens.size := fun h e => ⟨go, _, _, e, by rw [← hgo], by rw [← hgo], by rw [← hgo]⟩
    have gof : (h'.push go).get? h'.objs.size = some go := Heap.get?_push_size _ (by rw [← hgo]; rfl)
    have kp : ∀ b o, s3.heap.get? b = some o → (h'.push go).get? b = some o := fun b o e => Heap.get?_push_of_some _ (hs'.extBut b o (Nat.ne_of_lt (Heap.lt_size e)) (Heap.get?_push_of_some _ e))
    have hA' : (X.A.in1.in1.over (.compLoop (.GeneratorExp elt [⟨tg, iter, [], 0⟩] scope gpos) 0 (.ref it) .none (genEnv scope (cloFrom X.env.cells scope.names []) s3.heap.objs.size code builtinsNs X.env)) []).frames = some (genEnv scope (cloFrom X.env.cells scope.names []) s3.heap.objs.size code builtinsNs X.env :: X.stack) := by
      show pushEnvs [_] (pushEnvs [] X.A.frames) = _
      rw [I3.ok.frames]
      rfl
    have lt3 : ∀ b ∈ fp, b < s3.heap.objs.size := fun b hb => by
      obtain ⟨o, e, _⟩ := T.obj _ _ st3' b hb
      exact Heap.lt_size e
    have bare5 : AllBare (s3.gens.push (.fresh (.compStart (.GeneratorExp elt [⟨tg, iter, [], 0⟩] scope gpos) 0 (.ref it) .none (genEnv scope (cloFrom X.env.cells scope.names []) s3.heap.objs.size code builtinsNs X.env)))) := I3.bare.push rfl
    refine hQ (gx X s3 H2 (X.A.in1.in1.over (.compLoop (.GeneratorExp elt [⟨tg, iter, [], 0⟩] scope gpos) 0 (.ref it) .none (genEnv scope (cloFrom X.env.cells scope.names []) s3.heap.objs.size code builtinsNs X.env)) []) (genEnv scope (cloFrom X.env.cells scope.names []) s3.heap.objs.size code builtinsNs X.env) fp [(h'.objs.size, go)]) (wipe τ (own.map (·.2))) (fun H' => Q (.bl cont) H') (fun H' => Q (.bl (!cont)) H') h'.objs.size s3.gens.size (m0 + 1) go _ rfl rfl (List.mem_singleton.mpr rfl) isg ?_ (fun pins' σ' H' s1 s' IG k' o' b' => gx_back I3 f2 IG k' o' b') (fun _ q => q) fun _ q => q
    refine ⟨isg _ gof, I3.nolimit.keeps kp, bare5, _, Array.getElem?_push_size .., fun s'' near => ⟨rfl, ?_⟩⟩
    obtain ⟨g', t', rfl, bare'⟩ := near
    have IG := gx_start (s6 := { s3 with gens := g', toks := t', heap := h'.push go }) I3 hN ok hnc (fun b hb => ⟨f2 b hb, lt3 b hb⟩) (show (X.A.in1.in1.over (.compLoop (.GeneratorExp elt [⟨tg, iter, [], 0⟩] scope gpos) 0 (.ref it) .none (genEnv scope (cloFrom X.env.cells scope.names []) s3.heap.objs.size code builtinsNs X.env)) []).handled = none from I3.ok.hd hc) hA' kp (hn'.push _) rfl bare' (by rw [szp]; exact Nat.lt_succ_self _) gof (fun v z => by rw [← hgo] at z; cases z)
    have st5 : tn 0 (h'.push go) := T.keep _ _ _ st3' fun b _ o e => kp b o e
    refine gx_begin (X := gx X s3 H2 (X.A.in1.in1.over (.compLoop (.GeneratorExp elt [⟨tg, iter, [], 0⟩] scope gpos) 0 (.ref it) .none (genEnv scope (cloFrom X.env.cells scope.names []) s3.heap.objs.size code builtinsNs X.env)) []) (genEnv scope (cloFrom X.env.cells scope.names []) s3.heap.objs.size code builtinsNs X.env) fp [(h'.objs.size, go)]) T st5 ?_
    refine gx_loop (X := gx X s3 H2 (X.A.in1.in1.over (.compLoop (.GeneratorExp elt [⟨tg, iter, [], 0⟩] scope gpos) 0 (.ref it) .none (genEnv scope (cloFrom X.env.cells scope.names []) s3.heap.objs.size code builtinsNs X.env)) []) (genEnv scope (cloFrom X.env.cells scope.names []) s3.heap.objs.size code builtinsNs X.env) fp [(h'.objs.size, go)]) rfl hc (fun p hp hm => ?_) rfl rfl hco T (hg _ _ _ _ _ _ _ _) (he _ _ _ _ _ _ _ _ (gx_room hr rfl rfl)) turn m0 (m0 + 1) 0 _ _ H2 (Nat.lt_succ_self _) IG st5 (fun b hb => (f2 b hb).1) w0
    have : p = (h'.objs.size, go) := List.mem_singleton.mp hp
    subst this
    have h9 : h'.objs.size < s3.heap.objs.size := lt3 _ hm
    rw [szp] at h9
    exact absurd h9 (Nat.not_lt.mpr (Nat.le_succ _))
  cases hf : codeAmong gpos ps.toList with
  | none =>
    refine wpAny_genexprCodeX hcode (cd.code hPs htr) (cd.tab hPs) hf fun c' h' tk hx hge hlt hco' _ htab' _ => ?_
    obtain ⟨o1, vs, f1, tf, fl, tg1, inF, tx, tt, op, _, _, _, _, _, _, _, _, _, htr', _⟩ := hco'
    exact go_on _ h' tk (fun b o hb e => hx b o hb e) (Nat.le_trans hge (Nat.le_of_lt hlt)) ⟨_, htab'.2, htr'⟩
  | some cv =>
    refine wpAny_genexprCode_hit hcode (cd.code hPs htr) hf ?_
    exact go_on cv s2.heap s2.toks (fun _ _ _ e => e) (Nat.le_refl _) ⟨ps, hPs, htr⟩
theorem pe_allG {c P : Addr} {elt tg iter : Expr} {scope : Scope} {own : List (Str × Nat)} {p pos gpos : Pos} {wi : TI} {gg : TG} {te : TE} {k : Nat}
    (hr : Room (k + 1) X.A) (hc : X.calm = true) (hN : X.N.Nodup) (hgl : Gl X "all") (hm : X.mg "all" = none) (TB : GxR.TabB X.base X.mg c P) (hcode : X.env.code = .ref c) (hi : PI X tg iter wi) (ok : BlkOk X.N X.env.scope scope own)
    (hg : ∀ s H A' C cl code fp pn, PG (gx X s H A' (genEnv scope cl C code builtinsNs X.env) fp pn) tg gg) (he : ∀ s H A' C cl code fp pn, Room k A' → PE (gx X s H A' (genEnv scope cl C code builtinsNs X.env) fp pn) elt te)
    (hdot : scope.names.lookup (".0" : Str) = some NameKind.local := by rfl) (hnc : (scope.names.all fun y => y.2 != .cell) = true := by rfl) (hco : scope.isCoroutine = false := by rfl) (hs : ∀ v, genFold iter X.env v = pure v := by intro _; rfl)
    (hst : starEach [.GeneratorExp elt [⟨tg, iter, [], 0⟩] scope gpos] X.env = (false, eval (.GeneratorExp elt [⟨tg, iter, [], 0⟩] scope gpos) X.env) :: starEach [] X.env := by rfl) :
    PE X (.Call (.Name "all" p) [.GeneratorExp elt [⟨tg, iter, [], 0⟩] scope gpos] [] pos) (tGx true P wi gg te (own.map (·.2))) := by
  refine ⟨fun pins s σ H Q I h => ?_⟩
  refine wpAny_Call_Name_kw (ld_blt I hgl hm boot_all ?_)
  refine PyProof.Rows.callWith_builtin1 ?_ hst (by rfl)
  rw [hst]
  show wpAny _ _ (spliced ((false, eval (.GeneratorExp elt [⟨tg, iter, [], 0⟩] scope gpos) X.env) :: backTo pos (starEach [] X.env))) _ _ s
  refine Calls.spliced_cons (gx_make hr hc hN TB hcode hi ok hdot (fun y hy e => ?_) hco hg he hs I h fun G τ QD QE a g n go s5 eP eW hpn hgo hat back hD hE => Calls.spliced_nil ?_)
  · have := List.all_eq_true.mp hnc y hy
    rw [e] at this
    exact absurd this (by decide)
  refine call_function_tree F.kind_all F.plain_all F.entry_all (F.args_all1 _) ?_
  unfold Builtin.«all»
  refine wpAny_bind (m := oneArg "all" _) (wpAny_pure (wpAny_bind (wpAny_pyIter_gen hat.1 ?_)))
  have L := gx_all (G := G) (A := X.A) (σ := τ) (QD := QD) (QE := QE) (a := a) (g := g) (go := go) (R := fun r s' => ∃ v, r = .ok (.ret v) ∧ EP X pins σ Q v s') hr.hd (by have := hr.dp; omega) hpn hgo (fun σ' pins' H' s1 gs' IG q hb => ⟨_, rfl, .bl false, H', back _ _ _ _ _ IG (fun _ _ e => e) rfl (allBare_setGen IG.bare hb), rfl, hE _ q⟩)
    (fun s1 h' H' IG q hk => ⟨_, rfl, .bl true, H', back _ _ _ _ _ IG hk rfl (allBare_setGen IG.bare rfl), rfl, hD _ q⟩) n s5 hat
  rw [eP, eW] at L
  exact wpAny_pure ⟨plainId_quiet F.plain_all_loop _, codeAny_mono L fun r s' ⟨v, e, q⟩ => by subst e; simpa using q⟩
theorem pe_anyG {c P : Addr} {elt tg iter : Expr} {scope : Scope} {own : List (Str × Nat)} {p pos gpos : Pos} {wi : TI} {gg : TG} {te : TE} {k : Nat}
    (hr : Room (k + 1) X.A) (hc : X.calm = true) (hN : X.N.Nodup) (hgl : Gl X "any") (hm : X.mg "any" = none) (TB : GxR.TabB X.base X.mg c P) (hcode : X.env.code = .ref c) (hi : PI X tg iter wi) (ok : BlkOk X.N X.env.scope scope own)
    (hg : ∀ s H A' C cl code fp pn, PG (gx X s H A' (genEnv scope cl C code builtinsNs X.env) fp pn) tg gg) (he : ∀ s H A' C cl code fp pn, Room k A' → PE (gx X s H A' (genEnv scope cl C code builtinsNs X.env) fp pn) elt te)
    (hdot : scope.names.lookup (".0" : Str) = some NameKind.local := by rfl) (hnc : (scope.names.all fun y => y.2 != .cell) = true := by rfl) (hco : scope.isCoroutine = false := by rfl) (hs : ∀ v, genFold iter X.env v = pure v := by intro _; rfl)
    (hst : starEach [.GeneratorExp elt [⟨tg, iter, [], 0⟩] scope gpos] X.env = (false, eval (.GeneratorExp elt [⟨tg, iter, [], 0⟩] scope gpos) X.env) :: starEach [] X.env := by rfl) :
    PE X (.Call (.Name "any" p) [.GeneratorExp elt [⟨tg, iter, [], 0⟩] scope gpos] [] pos) (tGx false P wi gg te (own.map (·.2))) := by
  refine ⟨fun pins s σ H Q I h => ?_⟩
  refine wpAny_Call_Name_kw (ld_blt I hgl hm boot_any ?_)
  refine PyProof.Rows.callWith_builtin1 ?_ hst (by rfl)
  rw [hst]
  show wpAny _ _ (spliced ((false, eval (.GeneratorExp elt [⟨tg, iter, [], 0⟩] scope gpos) X.env) :: backTo pos (starEach [] X.env))) _ _ s
  refine Calls.spliced_cons (gx_make hr hc hN TB hcode hi ok hdot (fun y hy e => ?_) hco hg he hs I h fun G τ QD QE a g n go s5 eP eW hpn hgo hat back hD hE => Calls.spliced_nil ?_)
  · have := List.all_eq_true.mp hnc y hy
    rw [e] at this
    exact absurd this (by decide)
  refine call_function_tree F.kind_any F.plain_any F.entry_any (F.args_any1 _) ?_
  unfold Builtin.«any»
  refine wpAny_bind (m := oneArg "any" _) (wpAny_pure (wpAny_bind (wpAny_pyIter_gen hat.1 ?_)))
  have L := gx_any (G := G) (A := X.A) (σ := τ) (QD := QD) (QE := QE) (a := a) (g := g) (go := go) (R := fun r s' => ∃ v, r = .ok (.ret v) ∧ EP X pins σ Q v s') hr.hd (by have := hr.dp; omega) hpn hgo (fun σ' pins' H' s1 gs' IG q hb => ⟨_, rfl, .bl true, H', back _ _ _ _ _ IG (fun _ _ e => e) rfl (allBare_setGen IG.bare hb), rfl, hE _ q⟩)
    (fun s1 h' H' IG q hk => ⟨_, rfl, .bl false, H', back _ _ _ _ _ IG hk rfl (allBare_setGen IG.bare rfl), rfl, hD _ q⟩) n s5 hat
  rw [eP, eW] at L
  exact wpAny_pure ⟨plainId_quiet F.plain_any_loop _, codeAny_mono L fun r s' ⟨v, e, q⟩ => by subst e; simpa using q⟩
end
end Hid

namespace Hid
open PySem PySem.Spec PyProof.Rows L2 Evl
/-! the tables of a law: held by their form within, as they grew at the end -/
def xtab (ts : List Addr) (H : Hp) : Hp := fun b => if b ∈ ts then some (TabX b) else H b
theorem xtab_in {ts : List Addr} {H : Hp} {b : Addr} (h : b ∈ ts) : xtab ts H b = some (TabX b) := if_pos h
theorem xtab_out {ts : List Addr} {H : Hp} {b : Addr} (h : b ∉ ts) : xtab ts H b = H b := if_neg h
/-- back to the tables' contents -/
def grown (ts : List Addr) (h : Heap) (H : Hp) : Hp := fun b => if b ∈ ts then (match h.get? b with | some ⟨_, _, .fields ps, _⟩ => some (.tbl ps) | _ => none) else H b
theorem grown_in {ts : List Addr} {h : Heap} {H : Hp} {b : Addr} {ps : Array Value} (hb : b ∈ ts) (e : h.get? b = some (PySem.W.tabObj ps)) : grown ts h H b = some (.tbl ps) := by
  unfold grown
  rw [if_pos hb, e]
theorem grown_out {ts : List Addr} {h : Heap} {H : Hp} {b : Addr} (hb : b ∉ ts) : grown ts h H b = H b := if_neg hb
/-- all tables stand -/
def TB (ts : List Addr) (H : Hp) : Prop := ∀ P ∈ ts, H P = some (TabX P)
theorem TB.ex {ts : List Addr} {H H' : Hp} (h : TB ts H) (e : Ex H H') : TB ts H' := fun P hP => e _ _ (h P hP)
section
variable {P : Program} {w : World} {K : PySem.W.Frag} {mg : Str → Option Value} {base : Heap} {k : Nat} {f : Addr} {fd : FuncData} {ps : List Str} {sp : Sp} {ts : List Addr}
/-- a promise with tables held by their form, told with the tables' own contents -/
def spT (ts : List Addr) (sp : Sp) : Sp := fun vs H Q E => (∀ b ∈ ts, H b = some (.tbl #[])) ∧ sp vs (xtab ts H) (fun v H' => TB ts H' ∧ ∀ H'', (∀ b, b ∉ ts → H'' b = H' b) → Q v H'') E
theorem tab_law (F : FnOk P w K mg base CX0 k f fd ps sp) : FnOk P w K mg base CX0 k f fd ps (spT ts sp) := by
  refine ⟨fun vs H Q E h => F.len _ _ _ _ h.2, fun A outer s H args us vs Q E hr e0 hb hv h => ?_⟩
  obtain ⟨hT, h⟩ := h
  have out : ∀ {b : Addr}, H b = none → b ∉ ts := fun {b} e m => by
    rw [hT b m] at e
    cases e
  have outK : ∀ {b : Addr} {u : HO}, H b = some u → (∀ q, u ≠ .tbl q) → b ∉ ts := fun {b u} e n m => by
    rw [hT b m] at e
    exact n _ (Option.some.inj e).symm
  have hok : HOk P w (xtab ts H) s.heap := fun b u e => by
    by_cases m : b ∈ ts
    · rw [xtab_in m] at e
      cases e
      have q := e0.hok b _ (hT b m)
      exact tabX_ok ⟨#[], q, by first | trivial | exact .nil | constructor⟩
    · rw [xtab_out m] at e
      refine (e0.hok b u e).stay (fun c v _ q => q) (fun c q => ?_) fun c xs q => ?_
      · rw [xtab_out (outK q fun _ z => nomatch z)]
        exact q
      · rw [xtab_out (outK q fun _ z => nomatch z)]
        exact q
  have e1 : Env0 P w K mg base A outer s (xtab ts H) := ⟨e0.frames, e0.mod, fun b o e => ⟨(e0.bs b o e).1, by rw [xtab_out (out (e0.bs b o e).2)]; exact (e0.bs b o e).2⟩, e0.bsz, e0.funs, fun b hb => by rw [xtab_out (out (e0.frf b hb))]; exact e0.frf b hb, hok, e0.bare⟩
  refine codeAny_mono (F.run A outer s (xtab ts H) args us vs _ E hr e1 hb hv h) fun r s' hq => ?_
  cases r with
  | error e => exact hq.elim
  | ok fl =>
    cases fl with
    | next => exact hq.elim
    | brk => exact hq.elim
    | cont => exact hq.elim
    | ret u =>
      obtain ⟨v, H', os, bare, un, hok', rv, tb, q⟩ := hq
      have at' : ∀ b ∈ ts, ∃ qs, s'.heap.get? b = some (PySem.W.tabObj qs) := fun b m => by
        obtain ⟨⟨qs, e, _⟩, _⟩ := hok' b _ (tb b m)
        exact ⟨qs, e⟩
      have outK' : ∀ {b : Addr} {u : HO}, H' b = some u → (∀ φ, u ≠ .ext φ) → b ∉ ts := fun {b u} e n m => by
        rw [tb b m] at e
        exact n _ (Option.some.inj e).symm
      refine ⟨v, grown ts s'.heap H', os, bare, ⟨fun b o e n => ?_, fun b o e n => ?_, fun b o e n hx => ?_, un.there, fun b xs e => ?_, fun b o u e => ?_, fun b qs e => ?_⟩, fun b u e => ?_, rv, q _ fun b hb => grown_out hb⟩
      · exact un.keep b o e (by rw [xtab_out (out n)]; exact n)
      · exact un.slot b o e (by rw [xtab_out (out n)]; exact n)
      · rw [grown_out (out n)]
        exact un.free b o e (by rw [xtab_out (out n)]; exact n) hx
      · have m := outK e fun _ z => nomatch z
        rw [grown_out m]
        exact un.tups b xs (by rw [xtab_out m]; exact e)
      · have m := outK e fun _ z => nomatch z
        rw [grown_out m]
        exact un.frzs b o u (by rw [xtab_out m]; exact e)
      · by_cases m : b ∈ ts
        · obtain ⟨rs, er⟩ := at' b m
          rw [hT b m] at e
          cases e
          exact ⟨rs, by rw [grown_in m er, Array.empty_append]⟩
        · obtain ⟨more, z⟩ := un.tbls b qs (by rw [xtab_out m]; exact e)
          exact ⟨more, by rw [grown_out m]; exact z⟩
      · by_cases m : b ∈ ts
        · obtain ⟨rs, er⟩ := at' b m
          rw [grown_in m er] at e
          cases e
          exact er
        · rw [grown_out m] at e
          refine (hok' b u e).stay (fun c v _ q => q) (fun c q => ?_) fun c xs q => ?_
          · rw [grown_out (outK' q fun _ z => nomatch z)]
            exact q
          · rw [grown_out (outK' q fun _ z => nomatch z)]
            exact q
/-- a def by its body, the code object known -/
theorem okC {x qual : Str} {st : Stmt} {N : List Str} {c : Addr} (F : Fun K x qual st f fd) (hc : fd.code = .ref c) (S : FnScope N ps (defScope st)) (len : ∀ vs H Q E, sp vs H Q E → vs.length = ps.length)
    (hbody : ∀ (A : Around) (outer : List Env) (s : Shared) (H : Hp) (vs : List V) (Q : VK) (E : XK), Room k (A.deeper (envOfC qual (defScope st) s.heap.objs.size f (.ref c))) → sp vs H Q E →
      ∃ t, PSs (cxOf CX0 P w K mg base N qual (defScope st) f (.ref c) A outer s H E).nox (defBody st) t ∧ t { nx := fun _ H' => Q .non H', rt := Q } (start N vs) H) : FnOk P w K mg base CX0 (k + 1) f fd ps sp := by
  obtain ⟨oc, od, kV, doc, pm, an, cdv, ct, osl, rfl, lk, hcd⟩ := F.ex
  obtain rfl : cdv = .ref c := hc
  exact fn_of lk hcd S len fun A outer s H vs Q E hr hsp => let ⟨t, h, q⟩ := hbody A outer s H vs Q E hr hsp; ⟨t, h.nox, q⟩
end
theorem xtab_sq {K : PySem.W.Frag} {ts : List Addr} {H : Hp} {a : Addr} {xs : List V} (hT : ∀ b ∈ ts, H b = some (.tbl #[])) (h : SqL K H a xs) : SqL K (xtab ts H) a xs := by
  rcases h with (h | ⟨o, h⟩) | h
  · refine .inl (.inl ?_)
    rw [xtab_out fun m => by rw [hT a m] at h; cases h]; exact h
  · refine .inl (.inr ⟨o, ?_⟩)
    rw [xtab_out fun m => by rw [hT a m] at h; cases h]; exact h
  · exact .inr h
/-- a def with a code object that is asked for -/
def DfC (K : PySem.W.Frag) (mg : Str → Option Value) (x : Str) (st : Stmt) (ps : List Str) (c : Addr) : Prop := ∃ (f : Addr) (fd : FuncData), Fun K x x st f fd ∧ Binds K fd ps [] ∧ mg x = some (.ref f) ∧ fd.code = .ref c
theorem tabIn_mk {K : PySem.W.Frag} {x : Str} {f c P : Addr} {oc o1 : Value} {od o2 : Option Addr} {sl sl2 : Array (Option Value)} {fd : FuncData} {vs : Array Value} (a : PySem.W.nsIn K mainGlobals x = some (some (.ref f))) (b : K.lookup f = some ⟨oc, od, .func fd, sl⟩) (d : fd.code = .ref c) (e : K.lookup c = some ⟨o1, o2, .fields vs, sl2⟩) (g : vs[11]? = some (.ref P)) : PySem.W.tabIn K x = some (c, P) := by
  unfold PySem.W.tabIn
  simp only [a, b, d, e, g]
theorem walk_ofG {l : PySem.W.OpenLaw} {n k : Nat} {q : Program} {loose : List Str} {XP : (Str → Option Value) → Heap → Prop} {YP : World → Heap → Prop} {d : DefRec} {K : Params → PySem.W.Frag} {CX : World → CXT} {x : Str}
    (hn : l.most = some n) (hn2 : n ≤ sizeLine) (hdf : d.params.defaults = []) (hr : Room k callerA) (hY : ∀ (w : World) (h : Heap), YP w h → (K w.params).In h)
    (F : ∀ (w : World) (mg : Str → Option Value) (fa : Addr) (h : Heap), (K w.params).In h → h.Ns mainGlobals mg → mg d.name = some (.ref fa) → (∀ (y : Str) (c P : Addr), ((recsOf q).find? fun e => e.name == y).isSome = true → PySem.W.tabIn (K w.params) y = some (c, P) → PySem.W.CodeHd h c P ∧ h.get? P = some (PySem.W.tabObj #[])) → LamX.LawAtS l w (K w.params) (CX w) k n x mg fa h)
    (hCX : ∀ (w : World) (H : Hp) (s : Shared) (e : Value) (s' : Shared), CX w [] H s (fun _ _ _ => False) e s' → False) : PySem.W.WalkO q loose XP YP l.row.toRowW d [] (fun f vs => PySem.call f vs) := by
  refine Att.attach_callB hn hdf fun w s₀ s₁ mg mb fa o pm cd doc a vs ns G Y ho hd hcd hmg hobj hints hlen hbits hg => ?_
  have KX := hY w _ Y
  obtain ⟨fd, cs, sp, hT, nT, C, hb, hsp, hF⟩ := F w mg fa _ KX G.T.g hmg fun y c P hr ht => by
    obtain ⟨e, he⟩ := Option.isSome_iff_exists.mp hr
    exact PySem.W.tab_of G.T KX he ht
  exact LamX.law_callTs KX G.T.g G.T.b G.T.builtins G.T.nolimit hg hT nT C G.T.bmain hobj hints (Nat.le_trans hlen hn2) hr hF hb (fun H hH hS => hsp H a ns hlen hbits hH hS) fun H e s' => hCX w H s₁ e s'
end Hid

namespace Hid
open PySem PySem.Spec PyProof.Rows L2
section
variable {prog : Program} {w : World} {A : Around} {E : Value → Shared → Prop} {s : Shared}
/-- tuple(text): the code of tuple.__new__ -/
theorem tupStr_code {z : Str} {t : Tok} {Q₁ : Value → Shared → Prop} (hh : A.handled = none) (hl : z.cps.size ≤ 100000)
    (h : ∀ (h' : Heap) (tk : Nat) (acc : Array Value), (∀ b o, s.heap.get? b = some o → h'.get? b = some o) → ItemsOf (SignAt z) acc z.cps.size → Q₁ (.ref h'.objs.size) { s with heap := h'.push { cls := .type "tuple", data := .seq acc }, toks := tk }) :
    codeAny (model prog w) A (.call (.builtin "tuple.__new__") ⟨[.type "tuple", .str z t], []⟩) (wants Q₁ E) s := by
  have hsz : z.cps.size ≤ sizeLine := Nat.le_trans hl (by decide)
  refine codeAny_of_tree ?_
  show wpAny _ A.in1 (do checkBuiltinCall "tuple.__new__" ⟨[.type "tuple", .str z t], []⟩; again (.builtin "tuple.__new__" ⟨[.type "tuple", .str z t], []⟩)) _ _ s
  refine wpAny_bind (wpAny_of_eq (F.newCall_tuple_1 _) (wpAny_pure ⟨plainId_quiet F.plain_tuple_new _, codeAny_builtin F.entry_tuple_new ?_⟩))
  rw [Around.under_plainId F.plain_tuple_new _]
  have hsub := sub_tuple_self; have hinit := init_tuple_lookup; have hmh := madeHere_tuple
  have hTI : s.TypeIs (.str z t) "str" := typeIs_str _ _ _
  have hh1 : A.in1.handled = none := hh
  wp_walk using wpAny_typeOf hTI, wpAny_collect_str (A := A.in1) hh1 z t (hn := hsz)
  intro s' acc hk hg hd ho hacc
  obtain ⟨h', g', d', tk, o'⟩ := s'
  obtain rfl : g' = s.gens := hg
  obtain rfl : d' = s.drawn := hd
  obtain rfl : o' = s.os := ho
  show wpAny _ _ (Builtin.Tuple.tupleExact acc.toList.toArray >>= fun v => ret v) _ _ (⟨h', s.gens, s.drawn, tk, s.os⟩ : Shared)
  unfold Builtin.Tuple.tupleExact
  refine wpAny_bind (wpAny_newObj_type ?_ (by show acc.toList.toArray.size ≤ sizeLine; simp only [Array.toArray_toList]; rw [hacc.1]; exact hsz)) <;> refine wpAny_pure ?_
  rw [show acc.toList.toArray = acc by simp]
  exact h h' tk acc hk hacc
theorem tupStr {z : Str} {t : Tok} {Q : Value → Shared → Prop} (hh : A.handled = none) (hl : z.cps.size ≤ 100000)
    (hQ : ∀ (h' : Heap) (tk : Nat) (acc : Array Value), (∀ b o, s.heap.get? b = some o → h'.get? b = some o) → ItemsOf (SignAt z) acc z.cps.size → Q (.ref h'.objs.size) { s with heap := h'.push { cls := .type "tuple", data := .seq acc }, toks := tk }) :
    wpAny (model prog w) A (call (.type "tuple") [.str z t]) Q E s := by
  refine callType_codes (Q₁ := fun obj s₁ => s₁.TypeIs obj "tuple" ∧ Q obj s₁) F.called_tuple (F.typeCall_tuple_1 _) F.entry_object_init (tupStr_code (A := A.in1) hh hl fun h' tk acc hk hacc => ⟨⟨_, Heap.get?_push_size _ rfl, rfl⟩, hQ h' tk acc hk hacc⟩) fun obj s₁ h₁ => ?_
  exact ⟨h₁.1, F.args_object_init_2 obj _, object_init_meets F.called_tuple.init.lookup F.called_tuple.made (by decide) prog w A.in1 _ s₁ ⟨h₁.1, rfl, h₁.2⟩⟩
end
def signsV (z : Str) : List V := z.cps.toList.map fun c => V.str ⟨#[c]⟩
theorem cr_tupS {X : Cx} (hc : X.calm = true) : CallR X (.type "tuple") (fun vs H Q => ∃ z : Str, vs = [.str z] ∧ z.cps.size ≤ 100000 ∧ ∀ p, H p = none → Q (.ref p) (upd H p (.tup (signsV z)))) := by
  intro pins s σ H vs us Q I r h
  obtain ⟨z, rfl, hl, q⟩ := h
  obtain ⟨u, rfl, t, rfl⟩ := r.one
  refine tupStr (I.ok.hd hc) hl fun h' tk acc hk hacc => ?_
  have I2 : Inv X pins σ H { s with heap := h', toks := tk } := I.kept hk
  have rv : Vals (signsV z) acc.toList := by
    have e : signsV z = (List.range acc.toList.length).map fun i => V.str ⟨#[z.cps.toList.getD i 0]⟩ := by
      unfold signsV
      rw [Array.length_toList, hacc.1, ← Array.length_toList]
      conv => lhs; rw [← map_range_getD' z.cps.toList 0]
      rw [List.map_map]; rfl
    rw [e]
    refine vals_of_get acc.toList _ fun j u hj => ?_
    obtain ⟨c, t, hc, rfl⟩ := hacc.2 j u (by rw [← hj, Array.getElem?_toList])
    refine ⟨t, ?_⟩
    rw [List.getD_eq_getElem?_getD, Array.getElem?_toList, hc]; rfl
  have hlen : (signsV z).length ≤ sizeLine := by unfold signsV; rw [List.length_map, Array.length_toList]; exact Nat.le_trans hl (by decide)
  refine ⟨.ref h'.objs.size, upd H h'.objs.size (.tup (signsV z)), I2.laid (t' := tk) (o := .tup (signsV z)) (fun c o e => Heap.get?_push_of_some _ e) (Nat.le_refl _) ⟨hlen, acc.toList, rv, ?_⟩, rfl, q _ (I2.hok.fresh (Nat.le_refl _))⟩
  rw [Array.toArray_toList]; exact IsTup.new _ _
end Hid

namespace Hid
open PySem PySem.Spec PyProof.Rows L2 Evl
section
variable {J : It} {n : Nat} {Gd : Hp → Prop} {Y : Nat → Hp → V → Hp → Prop}
/-- all, any over a walk: Pv by the turn and the heap -/
theorem gx_it (w : Walk J n Gd Y) {cont : Bool} {g : TG} {te : TE} {vs : List Nat} {σ : L2.St} {H1 : Hp} {Q : VK} (Pv : Nat → Hp → Prop) (h0 : Pv 0 H1) (hG : ∀ i H, i ≤ n → Pv i H → Gd H)
    (hs : ∀ i x H H', i < n → Pv i H → Y i H x H' → g x (wipe σ vs) H' fun σ2 H2 => wipe σ2 vs = wipe σ vs ∧ te σ2 H2 fun y H3 => ∃ b, y = .bl b ∧ (b = cont → Pv (i + 1) H3) ∧ (b ≠ cont → Q (.bl (!cont)) H3)) (hd : ∀ H, Pv n H → Q (.bl cont) H) :
    ∃ W : Nat → Nat → Hp → Prop, (∃ m, W 0 m H1) ∧ ∀ i m H, W i m H → (J.stop i H ∧ Q (.bl cont) H) ∨ (J.go i H ∧ ∃ Nx : Hp → Prop, (∀ H', Nx H' → ∃ m', m' < m ∧ W (i + 1) m' H') ∧
      ∀ x H', J.yld i H x H' → g x (wipe σ vs) H' fun σ2 H2 => wipe σ2 vs = wipe σ vs ∧ te σ2 H2 fun y H3 => ∃ b, y = .bl b ∧ (b = cont → Nx H3) ∧ (b ≠ cont → Q (.bl (!cont)) H3)) := by
  refine ⟨fun i m H => m = n - i ∧ i ≤ n ∧ Pv i H, ⟨n, by simp, Nat.zero_le _, h0⟩, fun i m H hw => ?_⟩
  obtain ⟨rfl, hi, p⟩ := hw
  rcases Nat.lt_or_ge i n with hlt | hge
  · exact .inr ⟨w.goes i H hlt (hG i H hi p), Pv (i + 1), fun H' p' => ⟨n - (i + 1), by omega, rfl, hlt, p'⟩, fun x H' y => hs i x H H' hlt p (w.yields i H x H' hlt (hG i H hi p) y)⟩
  · obtain rfl : i = n := by omega
    exact .inl ⟨w.stops H (hG i H hi p), hd H p⟩
end
theorem of_not {b : Bool} (h : (!b) = true) : b = false := by cases b; rfl; cases h
theorem of_not' {b : Bool} (h : (!b) = false) : b = true := by cases b; cases h; rfl
/-! things of any kind: a text, or no text -/
def NotS (K : PySem.W.Frag) (H : Hp) (v : V) : Prop := ∃ t, kitB t "str" = some false ∧ ∀ H1, Ex H H1 → TyX K H1 v (.type t)
theorem NotS.ex {K : PySem.W.Frag} {H H' : Hp} {v : V} (h : NotS K H v) (e : Ex H H') : NotS K H' v := let ⟨t, a, b⟩ := h; ⟨t, a, fun H1 e1 => b H1 (e.trans e1)⟩
def Th (K : PySem.W.Frag) (H : Hp) (v : V) : Option (List Nat) → Prop
  | some z => v = .str (tx z) ∧ z.length ≤ 1000
  | none => NotS K H v
theorem Th.ex {K : PySem.W.Frag} {H H' : Hp} {v : V} : ∀ {o : Option (List Nat)}, Th K H v o → Ex H H' → Th K H' v o
  | some _, h, _ => h
  | none, h, e => NotS.ex h e
theorem th_str {K : PySem.W.Frag} {H : Hp} (z : List Nat) (h : z.length ≤ 1000) : Th K H (.str (tx z)) (some z) := ⟨rfl, h⟩
theorem th_non {K : PySem.W.Frag} {H : Hp} : Th K H .non none := ⟨"NoneType", by decide +kernel, fun _ _ => .base .non⟩
theorem th_bl {K : PySem.W.Frag} {H : Hp} (b : Bool) : Th K H (.bl b) none := ⟨"bool", by decide +kernel, fun _ _ => .base (.bl b)⟩
theorem th_int {K : PySem.W.Frag} {H : Hp} (i : Int) : Th K H (.int i) none := ⟨"int", by decide +kernel, fun _ _ => .base (.int i)⟩
theorem th_tup {K : PySem.W.Frag} {H : Hp} {a : Addr} {xs : List V} (h : H a = some (.tup xs)) : Th K H (.ref a) none := ⟨"tuple", by decide +kernel, fun _ e => .base (.tup (e _ _ h))⟩
theorem th_lst {K : PySem.W.Frag} {H : Hp} {a : Addr} {xs : List V} (h : H a = some (.lst xs)) : Th K H (.ref a) none := ⟨"list", by decide +kernel, fun _ e => .base (.lst (e _ _ h))⟩
theorem th_dict {K : PySem.W.Frag} {H : Hp} {a : Addr} {xs : List (Key × V)} (h : H a = some (.dK xs)) : Th K H (.ref a) none := ⟨"dict", by decide +kernel, fun _ e => .base (.dK (e _ _ h))⟩
section
variable {K : PySem.W.Frag} {σ : L2.St} {H : Hp} {ta : TE}
theorem ev_isS {v : V} {o : Option (List Nat)} (ha : Ev ta σ H v) (h : Th K H v o) : Ev (tCB (rIsi K) (tCons ta (tCons (tC (.ty "str")) tNil))) σ H (.bl o.isSome) := by
  cases o with
  | none => obtain ⟨t, hk, ht⟩ := h; exact ev_isi ha ht hk
  | some z => obtain ⟨rfl, _⟩ := h; exact ev_isi (b := true) ha (fun _ _ => .base (.str _)) (by decide +kernel)
end
/-! what is a text of one to eight of these signs; what fits a row -/
def wr (o : Option (List Nat)) (g : List Nat) : Bool := match o with
  | none => false
  | some z => decide (1 ≤ z.length ∧ z.length ≤ 8) && z.all fun c => decide (c ∈ g)
def lt1 (c d : Nat) : Bool := decide (c = 98) || decide (c = d)
def fitsO (r : List Nat) (o : Option (List Nat)) : Bool := match o with
  | none => false
  | some z => decide (z.length = r.length) && (z.all fun c => decide (c ∈ [110, 121])) && (List.zipWith lt1 r z).all id
def otherO (r : List Nat) (o : Option (List Nat)) : V := match o with
  | none => .non
  | some z => if fitsO r (some z) = true then .str (tx (turned r z)) else .non
theorem otherO_no {r : List Nat} {o : Option (List Nat)} (h : fitsO r o = false) : otherO r o = .non := by
  cases o with
  | none => rfl
  | some z => show (if fitsO r (some z) = true then V.str (tx (turned r z)) else V.non) = V.non; rw [h]; rfl
theorem otherO_yes {r z : List Nat} (h : fitsO r (some z) = true) : otherO r (some z) = .str (tx (turned r z)) := by
  show (if fitsO r (some z) = true then V.str (tx (turned r z)) else V.non) = _; rw [if_pos h]
theorem row_wr {r : List Nat} (h : RowL r) : wr (some r) [110, 98, 121] = true := by
  unfold wr
  rw [Bool.and_eq_true]
  refine ⟨decide_eq_true h.1, List.all_eq_true.mpr fun c hc => decide_eq_true ?_⟩
  rcases h.2 c hc with z | z | z <;> rw [z] <;> simp
/-- fits, step by step -/
theorem fits_step {r : List Nat} (hr : RowL r) (o : Option (List Nat)) : fitsO r o = (wr o [110, 121] && match o with | none => false | some z => decide (r.length = z.length) && (List.zipWith lt1 r z).all id) := by
  cases o with
  | none => rfl
  | some z =>
    show ((decide (z.length = r.length) && z.all fun c => decide (c ∈ [110, 121])) && (List.zipWith lt1 r z).all id) = ((decide (1 ≤ z.length ∧ z.length ≤ 8) && z.all fun c => decide (c ∈ [110, 121])) && (decide (r.length = z.length) && (List.zipWith lt1 r z).all id))
    by_cases h : z.length = r.length
    · have h1 : 1 ≤ z.length ∧ z.length ≤ 8 := by have := hr.1; omega
      simp only [decide_eq_true h, decide_eq_true h1, decide_eq_true h.symm, Bool.true_and]
    · have h' : ¬ r.length = z.length := fun q => h q.symm
      simp only [decide_eq_false h, decide_eq_false h', Bool.false_and, Bool.and_false]
end Hid

namespace Hid
open PySem PySem.Spec PyProof.Rows L2 Evl
/-! half-rows that fit a row, and its partings -/
abbrev Fit (r h : List Nat) : Prop := fitsO r (some h) = true
theorem fit_snoc (r h : List Nat) (c d : Nat) : fitsO (r ++ [c]) (some (h ++ [d])) = (fitsO r (some h) && (decide (d ∈ [110, 121]) && lt1 c d)) := by
  show ((decide ((h ++ [d]).length = (r ++ [c]).length) && ((h ++ [d]).all fun c => decide (c ∈ [110, 121]))) && (List.zipWith lt1 (r ++ [c]) (h ++ [d])).all id) = (((decide (h.length = r.length) && h.all fun c => decide (c ∈ [110, 121])) && (List.zipWith lt1 r h).all id) && (decide (d ∈ [110, 121]) && lt1 c d))
  by_cases hl : h.length = r.length
  · have e : (h ++ [d]).length = (r ++ [c]).length := by simp [hl]
    rw [List.zipWith_append hl.symm, List.all_append, List.all_append, decide_eq_true e, decide_eq_true hl]
    have e1 : ([d].all fun c => decide (c ∈ [110, 121])) = decide (d ∈ [110, 121]) := Bool.and_true _
    have e2 : (List.zipWith lt1 [c] [d]).all id = lt1 c d := Bool.and_true _
    rw [e1, e2]
    ac_rfl
  · have e : ¬ (h ++ [d]).length = (r ++ [c]).length := by simp [hl]
    rw [decide_eq_false e, decide_eq_false hl]
    simp only [Bool.false_and]
theorem fit_len {r h : List Nat} (f : Fit r h) : h.length = r.length ∧ ∀ c ∈ h, c = 110 ∨ c = 121 := by
  have h1 : (decide (h.length = r.length) && (h.all fun c => decide (c ∈ [110, 121])) && (List.zipWith lt1 r h).all id) = true := f
  rw [Bool.and_eq_true, Bool.and_eq_true] at h1
  refine ⟨of_decide_eq_true h1.1.1, fun c hc => ?_⟩
  have := List.all_eq_true.mp h1.1.2 c hc
  simpa using this
theorem sgn_or (k : Nat) : sgn k = 110 ∨ sgn k = 121 := by
  unfold sgn; split <;> simp
theorem tw_or (k : Nat) : tw 98 (sgn k) = 110 ∨ tw 98 (sgn k) = 121 := by
  rcases sgn_or k with h | h <;> rw [h] <;> decide
abbrev NBY (r : List Nat) : Prop := ∀ c ∈ r, c = 110 ∨ c = 98 ∨ c = 121
theorem last_of {n : Nat} {r : List Nat} (h : r.length = n + 1) : ∃ q c, r = q ++ [c] ∧ q.length = n := by
  have hne : r ≠ [] := fun z => by rw [z] at h; cases h
  exact ⟨r.dropLast, r.getLast hne, (List.dropLast_concat_getLast hne).symm, by rw [List.length_dropLast]; omega⟩
theorem fit_part : ∀ (n : Nat) (r : List Nat), r.length = n → NBY r → ∀ h : List Nat, Fit r h ↔ ∃ k, k < many r ∧ (h = (part r k).1 ∨ h = (part r k).2) := by
  intro n
  induction n with
  | zero =>
    intro r hn _ h
    have : r = [] := List.length_eq_zero_iff.mp hn
    subst this
    constructor
    · intro f
      exact ⟨0, by decide, .inl (List.length_eq_zero_iff.mp (fit_len f).1)⟩
    · rintro ⟨k, _, e | e⟩ <;> subst e <;> rfl
  | succ n ih =>
    intro r hn hr h
    obtain ⟨q, c, rfl, hq⟩ := last_of hn
    have hc := hr c (by simp)
    have ihq := ih q hq fun c hc => hr c (List.mem_append_left _ hc)
    constructor
    · intro f
      obtain ⟨fl, fc⟩ := fit_len f
      obtain ⟨g, d, rfl, _⟩ := last_of (fl.trans hn)
      have f' : fitsO (q ++ [c]) (some (g ++ [d])) = true := f
      rw [fit_snoc, Bool.and_eq_true, Bool.and_eq_true] at f'
      obtain ⟨f1, f2, f3⟩ := f'
      have hd : d = 110 ∨ d = 121 := fc d (by simp)
      obtain ⟨k, hk, hg⟩ := (ihq g).mp f1
      by_cases h98 : c = 98
      · subst h98
        by_cases h0 : q.count 98 = 0
        · have hm : many q = 1 := by unfold many; rw [h0]
          have k0 : k = 0 := by omega
          subst k0
          refine ⟨0, by rw [many_snoc, if_neg (fun h => h.2 h0)]; omega, ?_⟩
          rw [part_b]
          show g ++ [d] = (part q 0).1 ++ [110] ∨ g ++ [d] = (part q 0).2 ++ [121]
          rw [part_no_b q 0 h0] at hg ⊢
          have hg' : g = q := hg.elim id id
          rw [hg']
          rcases hd with e | e <;> rw [e]
          · exact .inl rfl
          · exact .inr rfl
        · have hm : many (q ++ [98]) = 2 * many q := by rw [many_snoc, if_pos ⟨rfl, h0⟩]
          have e0 : 2 * k / 2 = k := by omega
          have e1 : (2 * k + 1) / 2 = k := by omega
          rcases hg with e | e <;> rcases hd with e2 | e2
          · refine ⟨2 * k, by omega, .inl ?_⟩
            rw [part_b, e, e2, e0, (sgn_two k).1]
          · refine ⟨2 * k + 1, by omega, .inl ?_⟩
            rw [part_b, e, e2, e1, (sgn_two k).2]
          · refine ⟨2 * k + 1, by omega, .inr ?_⟩
            rw [part_b, e, e2, e1, (sgn_two k).2, tw_b.2]
          · refine ⟨2 * k, by omega, .inr ?_⟩
            rw [part_b, e, e2, e0, (sgn_two k).1, tw_b.1]
      · have hcd : c = d := by
          unfold lt1 at f3
          rw [decide_eq_false h98, Bool.false_or] at f3
          exact of_decide_eq_true f3
        refine ⟨k, by rw [many_snoc, if_neg (fun h => h98 h.1)]; exact hk, ?_⟩
        rw [part_o _ _ _ h98, ← hcd]
        rcases hg with e | e <;> rw [e]
        · exact .inl rfl
        · exact .inr rfl
    · rintro ⟨k, hk, e⟩
      by_cases h98 : c = 98
      · subst h98
        have hk2 : k / 2 < many q := by
          rw [many_snoc] at hk
          by_cases h0 : q.count 98 = 0
          · rw [if_neg (fun h => h.2 h0)] at hk; omega
          · rw [if_pos ⟨rfl, h0⟩] at hk; omega
        rw [part_b] at e
        rcases e with e | e <;> rw [e]
        · show fitsO _ _ = true
          rw [fit_snoc, show fitsO q (some (part q (k / 2)).1) = true from (ihq _).mpr ⟨k / 2, hk2, .inl rfl⟩]
          rcases sgn_or k with z | z <;> rw [z] <;> rfl
        · show fitsO _ _ = true
          rw [fit_snoc, show fitsO q (some (part q (k / 2)).2) = true from (ihq _).mpr ⟨k / 2, hk2, .inr rfl⟩]
          rcases tw_or k with z | z <;> rw [z] <;> rfl
      · have hc2 : c = 110 ∨ c = 121 := by
          rcases hc with z | z | z
          · exact .inl z
          · exact absurd z h98
          · exact .inr z
        rw [many_snoc, if_neg (fun h => h98 h.1)] at hk
        rw [part_o _ _ _ h98] at e
        rcases e with e | e <;> rw [e]
        · show fitsO _ _ = true
          rw [fit_snoc, show fitsO q (some (part q k).1) = true from (ihq _).mpr ⟨k, hk, .inl rfl⟩]
          rcases hc2 with z | z <;> rw [z] <;> rfl
        · show fitsO _ _ = true
          rw [fit_snoc, show fitsO q (some (part q k).2) = true from (ihq _).mpr ⟨k, hk, .inr rfl⟩]
          rcases hc2 with z | z <;> rw [z] <;> rfl
/-! the number read off the lesser half -/
def numB (r h : List Nat) : Nat := (r.zip h).foldl (fun n p => if p.1 = 98 then 2 * n + (if p.2 = 121 then 1 else 0) else n) 0
theorem numB_snoc (r h : List Nat) (c d : Nat) (e : h.length = r.length) : numB (r ++ [c]) (h ++ [d]) = if c = 98 then 2 * numB r h + (if d = 121 then 1 else 0) else numB r h := by
  unfold numB
  rw [List.zip_append e.symm, List.foldl_append]
  rfl
theorem numB_part : ∀ (n : Nat) (r : List Nat), r.length = n → ∀ k, k < 2 ^ r.count 98 → numB r (part r k).1 = k := by
  intro n
  induction n with
  | zero =>
    intro r hn k hk
    have : r = [] := List.length_eq_zero_iff.mp hn
    subst this
    have k0 : k = 0 := by simpa using hk
    subst k0
    rfl
  | succ n ih =>
    intro r hn k hk
    obtain ⟨q, c, rfl, hq⟩ := last_of hn
    by_cases h98 : c = 98
    · subst h98
      rw [part_b]
      show numB (q ++ [98]) ((part q (k / 2)).1 ++ [sgn k]) = k
      rw [List.count_append, show List.count 98 [98] = 1 from rfl, Nat.pow_succ] at hk
      rw [numB_snoc _ _ _ _ (show (part q (k / 2)).1.length = q.length from lesser_len _ _), if_pos rfl, ih q hq (k / 2) (by omega)]
      unfold sgn
      by_cases h2 : k % 2 = 0
      · rw [if_pos h2, if_neg (by decide)]; omega
      · rw [if_neg h2, if_pos rfl]; omega
    · have h0 : List.count 98 [c] = 0 := List.count_eq_zero.mpr (by simpa using fun z => h98 z.symm)
      rw [List.count_append, h0] at hk
      rw [part_o _ _ _ h98]
      show numB (q ++ [c]) ((part q k).1 ++ [c]) = k
      rw [numB_snoc _ _ _ _ (show (part q k).1.length = q.length from lesser_len _ _), if_neg h98]
      exact ih q hq k hk
theorem many_le (r : List Nat) : many r ≤ 2 ^ r.count 98 := Nat.pow_le_pow_right (by decide) (by omega)
theorem turned_back : ∀ (r h : List Nat), h.length = r.length → (∀ c ∈ h, c = 110 ∨ c = 121) → turned r (turned r h) = h
  | [], [], _, _ => rfl
  | [], _ :: _, e, _ => nomatch e
  | _ :: _, [], e, _ => nomatch e
  | c :: r, d :: h, e, hc => by
    show tw c (tw c d) :: turned r (turned r h) = d :: h
    rw [turned_back r h (by simpa using e) fun x hx => hc x (List.mem_cons_of_mem _ hx)]
    congr 1
    by_cases h98 : c = 98 <;> rcases hc d List.mem_cons_self with z | z <;> simp [tw, h98, z]
theorem fit_of {r : List Nat} (hr : NBY r) {h : List Nat} : Fit r h ↔ ∃ k, k < many r ∧ (h = (part r k).1 ∨ h = (part r k).2) := fit_part _ r rfl hr h
theorem part_back {r : List Nat} (hr : NBY r) {k : Nat} (hk : k < many r) : turned r (part r k).2 = (part r k).1 := by
  obtain ⟨h1, h2⟩ := fit_len ((fit_of hr).mpr ⟨k, hk, .inl rfl⟩)
  exact turned_back r _ h1 h2
theorem fit_turned {r h : List Nat} (hr : NBY r) (f : Fit r h) : Fit r (turned r h) ∧ turned r (turned r h) = h := by
  obtain ⟨h1, h2⟩ := fit_len f
  refine ⟨?_, turned_back r h h1 h2⟩
  obtain ⟨k, hk, e | e⟩ := (fit_of hr).mp f
  · exact (fit_of hr).mpr ⟨k, hk, .inr (by rw [e]; rfl)⟩
  · exact (fit_of hr).mpr ⟨k, hk, .inl (by rw [e, part_back hr hk])⟩
theorem part_lt : ∀ (n : Nat) (r : List Nat), r.length = n → 98 ∈ r → ∀ k l, k < many r → l < many r → (part r k).1 < (part r l).2 := by
  intro n
  induction n with
  | zero =>
    intro r hn h
    have : r = [] := List.length_eq_zero_iff.mp hn
    subst this
    cases h
  | succ n ih =>
    intro r hn hm k l hk hl
    obtain ⟨q, c, rfl, hq⟩ := last_of hn
    have ln : ∀ i j, (part q i).1.length = (part q j).2.length := fun i j => ((part_good q).1 i).1.trans ((part_good q).1 j).2.1.symm
    by_cases h98 : c = 98
    · subst h98
      rw [part_b, part_b]
      rw [many_snoc] at hk hl
      by_cases h0 : q.count 98 = 0
      · rw [if_neg (fun h => h.2 h0)] at hk hl
        have hm : many q = 1 := by unfold many; rw [h0]
        have k0 : k = 0 := by omega
        have l0 : l = 0 := by omega
        subst k0 l0
        rw [part_no_b q _ h0]
        exact app_same q 110 121 (by decide)
      · rw [if_pos ⟨rfl, h0⟩] at hk hl
        exact app_lt _ _ _ _ (ln _ _) (ih q hq (List.count_pos_iff.mp (by omega)) _ _ (by omega) (by omega))
    · rw [many_snoc, if_neg (fun h => h98 h.1)] at hk hl
      rw [part_o _ _ _ h98, part_o _ _ _ h98]
      have hq98 : 98 ∈ q := by
        rcases List.mem_append.mp hm with z | z
        · exact z
        · exact absurd (List.mem_singleton.mp z).symm h98
      exact app_lt _ _ _ _ (ln _ _) (ih q hq hq98 _ _ hk hl)
theorem lt_ne {a b : List Nat} (h : a < b) : a ≠ b := fun e => by rw [e] at h; exact List.lt_irrefl _ h
/-! all that is told of the partings -/
def tolds (p : List Nat × List Nat) : List (List Nat) := if p.1 ≠ p.2 then [p.1, p.2] else [p.1]
def told (r : List Nat) (n : Nat) : List (List Nat) := (List.range n).flatMap fun k => tolds (part r k)
theorem told_succ (r : List Nat) (n : Nat) : told r (n + 1) = told r n ++ tolds (part r n) := by
  unfold told
  rw [List.range_succ, List.flatMap_append]
  simp
theorem mem_tolds {x : List Nat} {p : List Nat × List Nat} : x ∈ tolds p ↔ x = p.1 ∨ x = p.2 := by
  unfold tolds
  by_cases h : p.1 = p.2
  · rw [if_neg (by simpa using h)]; simp [h]
  · rw [if_pos h]; simp
theorem mem_told {r : List Nat} (hr : NBY r) {x : List Nat} : x ∈ told r (many r) ↔ Fit r x := by
  unfold told
  rw [List.mem_flatMap, fit_of hr]
  constructor
  · rintro ⟨k, hk, e⟩; exact ⟨k, List.mem_range.mp hk, mem_tolds.mp e⟩
  · rintro ⟨k, hk, e⟩; exact ⟨k, List.mem_range.mpr hk, mem_tolds.mpr e⟩
theorem one_many {r : List Nat} (h : 98 ∉ r) : many r = 1 ∧ ∀ k, part r k = (r, r) := by
  have h0 : r.count 98 = 0 := List.count_eq_zero.mpr h
  exact ⟨by unfold many; rw [h0], fun k => part_no_b r k h0⟩
theorem told_one {r : List Nat} (h : 98 ∉ r) : told r (many r) = [r] := by
  obtain ⟨h1, h2⟩ := one_many h
  rw [h1]
  show tolds (part r 0) ++ [] = [r]
  rw [h2, List.append_nil]
  unfold tolds
  rw [if_neg (by simp)]
theorem part_ne {r : List Nat} (h : 98 ∈ r) (k : Nat) : (part r k).1 ≠ (part r k).2 := turned_ne r _ (lesser_len _ _) h
theorem told_nodup {r : List Nat} (hr : NBY r) : (told r (many r)).Nodup := by
  by_cases h : 98 ∈ r
  · unfold told
    refine List.pairwise_flatMap.mpr ⟨fun k hk => ?_, ?_⟩
    · unfold tolds
      rw [if_pos (part_ne h k)]
      exact List.pairwise_cons.mpr ⟨fun x hx => by rw [List.mem_singleton.mp hx]; exact part_ne h k, List.pairwise_singleton _ _⟩
    · refine List.Pairwise.imp_of_mem ?_ (List.pairwise_lt_range (n := many r))
      intro k l hk hl hkl x hx y hy
      have hk' := List.mem_range.mp hk
      have hl' := List.mem_range.mp hl
      have h1 := lt_ne ((part_good r).2.2 k l hkl hl')
      rcases mem_tolds.mp hx with e | e <;> rcases mem_tolds.mp hy with e2 | e2 <;> rw [e, e2]
      · exact h1
      · exact lt_ne (part_lt _ r rfl h k l hk' hl')
      · exact (lt_ne (part_lt _ r rfl h l k hl' hk')).symm
      · intro z
        refine h1 ?_
        rw [← part_back hr hk', ← part_back hr hl', z]
  · rw [told_one h]
    exact List.pairwise_singleton _ _
theorem told_len (r : List Nat) (h : 98 ∈ r) : ∀ n, (told r n).length = 2 * n
  | 0 => rfl
  | n + 1 => by
    rw [told_succ, List.length_append, told_len r h n]
    unfold tolds
    rw [if_pos (part_ne h n)]
    show 2 * n + 2 = _
    omega
theorem told_le (r : List Nat) : ∀ n, (told r n).length ≤ 2 * n
  | 0 => Nat.le_refl _
  | n + 1 => by
    rw [told_succ, List.length_append]
    have := told_le r n
    have h2 : (tolds (part r n)).length ≤ 2 := by unfold tolds; split <;> simp
    omega
/-! the lesser and the greater -/
def mn (a b : List Nat) : List Nat := if b < a then b else a
def mx (a b : List Nat) : List Nat := if a < b then b else a
theorem mnmx {a b : List Nat} (h : a = b ∨ a < b) : (mn a b, mx a b) = (a, b) ∧ (mn b a, mx b a) = (a, b) := by
  unfold mn mx
  rcases h with e | e
  · subst e
    rw [if_neg (List.lt_irrefl _)]
    exact ⟨rfl, rfl⟩
  · have n : ¬ b < a := fun z => List.lt_irrefl _ (List.lt_trans e z)
    simp only [if_neg n, if_pos e, and_self]
theorem fit_pair {r h : List Nat} (hr : NBY r) (f : Fit r h) : ∃ k, k < many r ∧ part r k = (mn h (turned r h), mx h (turned r h)) := by
  obtain ⟨k, hk, e⟩ := (fit_of hr).mp f
  refine ⟨k, hk, ?_⟩
  obtain ⟨m1, m2⟩ := mnmx ((part_good r).2.1 k hk)
  rcases e with e | e
  · have e2 : turned r h = (part r k).2 := by rw [e]; rfl
    rw [e2, e]
    exact m1.symm
  · have e2 : turned r h = (part r k).1 := by rw [e]; exact part_back hr hk
    rw [e2, e]
    exact m2.symm
/-! two half-rows and their row -/
theorem rowBy_lt : ∀ a b : List Nat, (List.zipWith lt1 (rowBy a b) a).all id = true
  | [], _ => by cases ‹List Nat› <;> rfl
  | _ :: _, [] => rfl
  | s :: a, t :: b => by
    show (lt1 (rb s t) s && (List.zipWith lt1 (rowBy a b) a).all id) = true
    rw [rowBy_lt a b, Bool.and_true]
    unfold lt1 rb
    by_cases h : s = t
    · rw [if_pos h, decide_eq_true rfl, Bool.or_true]
    · rw [if_neg h, decide_eq_true rfl, Bool.true_or]
theorem rowBy_turn : ∀ a b : List Nat, a.length = b.length → (∀ c ∈ a, c = 110 ∨ c = 121) → (∀ c ∈ b, c = 110 ∨ c = 121) → turned (rowBy a b) a = b
  | [], [], _, _, _ => rfl
  | [], _ :: _, e, _, _ => nomatch e
  | _ :: _, [], e, _, _ => nomatch e
  | s :: a, t :: b, e, ha, hb => by
    show tw (rb s t) s :: turned (rowBy a b) a = t :: b
    rw [rowBy_turn a b (by simpa using e) (fun x hx => ha x (List.mem_cons_of_mem _ hx)) fun x hx => hb x (List.mem_cons_of_mem _ hx)]
    congr 1
    rcases ha s List.mem_cons_self with z | z <;> rcases hb t List.mem_cons_self with y | y <;> rw [z, y] <;> decide
theorem rowBy_nby : ∀ a b : List Nat, (∀ c ∈ a, c = 110 ∨ c = 121) → NBY (rowBy a b)
  | [], _, _ => by intro c hc; cases ‹List Nat› <;> cases hc
  | _ :: _, [], _ => by intro c hc; cases hc
  | s :: a, t :: b, ha => by
    intro c hc
    rcases List.mem_cons.mp (show c ∈ rb s t :: rowBy a b from hc) with e | e
    · rw [e]
      unfold rb
      split
      · rcases ha s List.mem_cons_self with z | z <;> simp [z]
      · exact .inr (.inl rfl)
    · exact rowBy_nby a b (fun x hx => ha x (List.mem_cons_of_mem _ hx)) c e
abbrev HalfN (m : Nat) (h : List Nat) : Prop := h.length = m ∧ ∀ c ∈ h, c = 110 ∨ c = 121
theorem fit_mk {r h : List Nat} (hl : h.length = r.length) (hc : ∀ c ∈ h, c = 110 ∨ c = 121) : fitsO r (some h) = (List.zipWith lt1 r h).all id := by
  show ((decide (h.length = r.length) && h.all fun c => decide (c ∈ [110, 121])) && (List.zipWith lt1 r h).all id) = _
  have h2 : (h.all fun c => decide (c ∈ [110, 121])) = true := List.all_eq_true.mpr fun c hx => decide_eq_true (by simpa using hc c hx)
  rw [decide_eq_true hl, h2]
  rfl
theorem two_part {m : Nat} {a b : List Nat} (ha : HalfN m a) (hb : HalfN m b) : ∃ k, k < many (rowBy a b) ∧ part (rowBy a b) k = (mn a b, mx a b) := by
  have hl : a.length = (rowBy a b).length := by unfold rowBy; rw [List.length_zipWith, ha.1, hb.1, Nat.min_self]
  obtain ⟨k, hk, e⟩ := fit_pair (rowBy_nby a b ha.2) (show Fit (rowBy a b) a from (fit_mk hl ha.2).trans (rowBy_lt a b))
  rw [rowBy_turn a b (ha.1.trans hb.1.symm) ha.2 hb.2] at e
  exact ⟨k, hk, e⟩
/-! all half-rows of a length -/
def allH : Nat → List (List Nat)
  | 0 => [[]]
  | n + 1 => (allH n).map (· ++ [110]) ++ (allH n).map (· ++ [121])
theorem allH_mem : ∀ {n : Nat} {h : List Nat}, h ∈ allH n ↔ HalfN n h
  | 0, h => by
    constructor
    · intro q
      rw [List.mem_singleton.mp q]
      exact ⟨rfl, fun c hc => nomatch hc⟩
    · intro q
      rw [List.length_eq_zero_iff.mp q.1]
      exact List.mem_singleton.mpr rfl
  | n + 1, h => by
    have mk : ∀ {g : List Nat} {d : Nat}, (d = 110 ∨ d = 121) → g ∈ allH n → HalfN (n + 1) (g ++ [d]) := fun {g d} hd hg => by
      obtain ⟨l, c⟩ := allH_mem.mp hg
      refine ⟨by rw [List.length_append, l]; rfl, fun x hx => ?_⟩
      rcases List.mem_append.mp hx with z | z
      · exact c x z
      · rw [List.mem_singleton.mp z]; exact hd
    constructor
    · intro q
      rcases List.mem_append.mp q with z | z <;> obtain ⟨g, hg, rfl⟩ := List.mem_map.mp z
      · exact mk (.inl rfl) hg
      · exact mk (.inr rfl) hg
    · rintro ⟨l, c⟩
      obtain ⟨g, d, rfl, hg⟩ := last_of l
      have hm : g ∈ allH n := allH_mem.mpr ⟨hg, fun x hx => c x (List.mem_append_left _ hx)⟩
      rcases c d (by simp) with z | z <;> rw [z]
      · exact List.mem_append_left _ (List.mem_map.mpr ⟨g, hm, rfl⟩)
      · exact List.mem_append_right _ (List.mem_map.mpr ⟨g, hm, rfl⟩)
theorem allH_nodup : ∀ n, (allH n).Nodup
  | 0 => List.pairwise_singleton _ _
  | n + 1 => by
    have hm : ∀ d : Nat, ((allH n).map (· ++ [d])).Nodup := fun d => List.pairwise_map.mpr ((allH_nodup n).imp fun ne e => ne (List.append_cancel_right e))
    refine List.nodup_append.mpr ⟨hm _, hm _, fun x hx y hy e => ?_⟩
    obtain ⟨g, _, rfl⟩ := List.mem_map.mp hx
    obtain ⟨g2, _, rfl⟩ := List.mem_map.mp hy
    have := congrArg List.getLast? e
    simp at this
theorem allH_len : ∀ n, (allH n).length = 2 ^ n
  | 0 => rfl
  | n + 1 => by
    show ((allH n).map _ ++ (allH n).map _).length = _
    rw [List.length_append, List.length_map, List.length_map, allH_len n, Nat.pow_succ]
    omega
theorem rise_uniq : ∀ {l m : List Str}, Rise l → Rise m → (∀ x, x ∈ l ↔ x ∈ m) → l = m
  | [], [], _, _, _ => rfl
  | [], y :: m, _, _, e => absurd ((e y).mpr List.mem_cons_self) (by simp)
  | x :: l, [], _, _, e => absurd ((e x).mp List.mem_cons_self) (by simp)
  | x :: l, y :: m, hl, hm, e => by
    obtain ⟨l1, l2⟩ := List.pairwise_cons.mp hl
    obtain ⟨m1, m2⟩ := List.pairwise_cons.mp hm
    have hxy : x = y := by
      rcases List.mem_cons.mp ((e x).mp List.mem_cons_self) with z | z
      · exact z
      · rcases List.mem_cons.mp ((e y).mpr List.mem_cons_self) with z2 | z2
        · exact z2.symm
        · exact absurd (List.lt_trans (m1 x z) (l1 y z2)) (List.lt_irrefl _)
    subst hxy
    rw [rise_uniq l2 m2 fun z => ?_]
    constructor
    · intro hz
      rcases List.mem_cons.mp ((e z).mp (List.mem_cons_of_mem _ hz)) with w | w
      · have := l1 z hz
        rw [w] at this
        exact absurd this (List.lt_irrefl _)
      · exact w
    · intro hz
      rcases List.mem_cons.mp ((e z).mpr (List.mem_cons_of_mem _ hz)) with w | w
      · have := m1 z hz
        rw [w] at this
        exact absurd this (List.lt_irrefl _)
      · exact w
theorem nodup_tx {l : List (List Nat)} (h : l.Nodup) : (l.map tx).Nodup := List.pairwise_map.mpr (h.imp fun ne e => ne (tx_inj e))
def HL (n : Nat) : List (List Nat) := (srt ((allH n).map tx)).map fun z => z.cps.toList
theorem HL_tx (n : Nat) : (HL n).map tx = srt ((allH n).map tx) := by
  unfold HL
  rw [List.map_map]
  conv => rhs; rw [← List.map_id (srt ((allH n).map tx))]
  exact List.map_congr_left fun z _ => tx_cps z
theorem HL_mem {n : Nat} {h : List Nat} : h ∈ HL n ↔ HalfN n h := by
  rw [← allH_mem]
  constructor
  · intro q
    have : tx h ∈ (HL n).map tx := List.mem_map.mpr ⟨h, q, rfl⟩
    rw [HL_tx, mem_srt] at this
    obtain ⟨g, hg, e⟩ := List.mem_map.mp this
    rw [← tx_inj e]
    exact hg
  · intro q
    have : tx h ∈ srt ((allH n).map tx) := mem_srt.mpr (List.mem_map.mpr ⟨h, q, rfl⟩)
    rw [← HL_tx] at this
    obtain ⟨g, hg, e⟩ := List.mem_map.mp this
    rw [← tx_inj e]
    exact hg
theorem HL_len (n : Nat) : (HL n).length = 2 ^ n := by
  unfold HL
  rw [List.length_map, srt_len, List.length_map, allH_len]
theorem told_sorted {r : List Nat} (hr : NBY r) : srt ((told r (many r)).map tx) = ((HL r.length).filter fun h => fitsO r (some h)).map tx := by
  refine rise_uniq (rise_of (nodup_tx (told_nodup hr))).1 ?_ fun x => ?_
  · have h1 : Rise ((HL r.length).map tx) := by rw [HL_tx]; exact (rise_of (nodup_tx (allH_nodup _))).1
    exact List.Pairwise.sublist (List.filter_sublist.map tx) h1
  · rw [mem_srt, List.mem_map, List.mem_map]
    constructor
    · rintro ⟨h, hm, e⟩
      have f := (mem_told hr).mp hm
      exact ⟨h, List.mem_filter.mpr ⟨HL_mem.mpr (fit_len f), f⟩, e⟩
    · rintro ⟨h, hm, e⟩
      exact ⟨h, (mem_told hr).mpr (List.mem_filter.mp hm).2, e⟩
end Hid

namespace Hid
/-! half-rows that don't cross: knots and ties in plain words -/
def aT (h : List Nat) (i : Nat) : Nat := h.getD i 0
abbrev NY (c : Nat) : Prop := c = 110 ∨ c = 121
def tn (c : Nat) : Nat := if c = 110 then 121 else 110
theorem tn_ny {c : Nat} : NY (tn c) := by
  unfold tn
  split
  · exact .inr rfl
  · exact .inl rfl
theorem tn_ne {c : Nat} : tn c ≠ c := by
  unfold tn
  split
  · rename_i h; rw [h]; decide
  · rename_i h; exact fun z => h z.symm
theorem ny_tn {c d : Nat} (hc : NY c) (hd : NY d) (h : c ≠ d) : d = tn c := by
  rcases hc with rfl | rfl <;> rcases hd with rfl | rfl <;> first | exact absurd rfl h | rfl
theorem aT_ny {n : Nat} {h : List Nat} (hh : HalfN n h) {i : Nat} (hi : i < n) : NY (aT h i) := by
  have hl : i < h.length := by rw [hh.1]; exact hi
  unfold aT
  rw [List.getD_eq_getElem?_getD, List.getElem?_eq_getElem hl]
  exact hh.2 _ (List.getElem_mem hl)
theorem half_ext {n : Nat} {a b : List Nat} (ha : HalfN n a) (hb : HalfN n b) (h : ∀ i, i < n → aT a i = aT b i) : a = b := by
  refine List.ext_getElem (by rw [ha.1, hb.1]) fun i h1 h2 => ?_
  have := h i (by rw [← ha.1]; exact h1)
  unfold aT at this
  rw [List.getD_eq_getElem?_getD, List.getD_eq_getElem?_getD, List.getElem?_eq_getElem h1, List.getElem?_eq_getElem h2] at this
  exact this
def Sh (S : List (List Nat)) (i j u v : Nat) : Prop := ∃ h ∈ S, aT h i = u ∧ aT h j = v
theorem Sh.symm {S : List (List Nat)} {i j u v : Nat} (h : Sh S i j u v) : Sh S j i v u := let ⟨x, a, b, c⟩ := h; ⟨x, a, c, b⟩
structure HS (S : List (List Nat)) (n : Nat) : Prop where
  ne : S ≠ []
  hh : ∀ h ∈ S, HalfN n h
  nc : ∀ i j, i < n → j < n → i ≠ j → ∃ u v, NY u ∧ NY v ∧ ¬ Sh S i j u v
def Kn (S : List (List Nat)) (n : Nat) (k : List Nat) : Prop := HalfN n k ∧ ∀ i j, i < n → j < n → Sh S i j (aT k i) (aT k j)
theorem kn_iff {S : List (List Nat)} {n : Nat} {k : List Nat} : Kn S n k ↔ HalfN n k ∧ ∀ i j, i ≤ j → j < n → Sh S i j (aT k i) (aT k j) := by
  refine ⟨fun h => ⟨h.1, fun i j a b => h.2 i j (by omega) b⟩, fun h => ⟨h.1, fun i j a b => ?_⟩⟩
  rcases Nat.le_total i j with c | c
  · exact h.2 i j c b
  · exact (h.2 j i c a).symm
theorem kn_of {S : List (List Nat)} {n : Nat} (hs : HS S n) {h : List Nat} (hm : h ∈ S) : Kn S n h := ⟨hs.hh h hm, fun i j _ _ => ⟨h, hm, rfl, rfl⟩⟩
def SpE (S : List (List Nat)) (i j : Nat) : Prop := ∀ h ∈ S, ∀ h' ∈ S, (aT h i = aT h' i ↔ aT h j = aT h' j)
instance (S : List (List Nat)) (i j : Nat) : Decidable (SpE S i j) := by unfold SpE; infer_instance
theorem SpE.refl (S : List (List Nat)) (i : Nat) : SpE S i i := fun _ _ _ _ => Iff.rfl
theorem SpE.symm {S : List (List Nat)} {i j : Nat} (h : SpE S i j) : SpE S j i := fun a b c d => (h a b c d).symm
theorem SpE.trans {S : List (List Nat)} {i j k : Nat} (h : SpE S i j) (h2 : SpE S j k) : SpE S i k := fun a b c d => (h a b c d).trans (h2 a b c d)
def Nc (S : List (List Nat)) (i : Nat) : Prop := ∃ h ∈ S, ∃ h' ∈ S, aT h i ≠ aT h' i
section
variable {S : List (List Nat)} {n : Nat}
theorem sp_eq {a b : List Nat} {i j : Nat} (ha : Kn S n a) (hb : Kn S n b) (hi : i < n) (hj : j < n) (h : SpE S i j) : aT a i = aT b i ↔ aT a j = aT b j := by
  obtain ⟨x, x1, x2, x3⟩ := ha.2 i j hi hj
  obtain ⟨y, y1, y2, y3⟩ := hb.2 i j hi hj
  rw [← x2, ← x3, ← y2, ← y3]
  exact h x x1 y y1
theorem nc_of {a b : List Nat} {i : Nat} (ha : Kn S n a) (hb : Kn S n b) (hi : i < n) (h : aT a i ≠ aT b i) : Nc S i := by
  obtain ⟨x, x1, x2, _⟩ := ha.2 i i hi hi
  obtain ⟨y, y1, y2, _⟩ := hb.2 i i hi hi
  exact ⟨x, x1, y, y1, by rw [x2, y2]; exact h⟩
/-- four pairs are never all shown -/
theorem no_four (hs : HS S n) {i j u v : Nat} (hi : i < n) (hj : j < n) (hij : i ≠ j) (h1 : Sh S i j u v) (h2 : Sh S i j u (tn v)) (h3 : Sh S i j (tn u) v) (h4 : Sh S i j (tn u) (tn v)) : False := by
  obtain ⟨p, q, hp, hq, hn⟩ := hs.nc i j hi hj hij
  obtain ⟨x, x1, x2, x3⟩ := h1
  have hu : NY u := by rw [← x2]; exact aT_ny (hs.hh x x1) hi
  have hv : NY v := by rw [← x3]; exact aT_ny (hs.hh x x1) hj
  by_cases a : p = u
  · by_cases b : q = v
    · rw [a, b] at hn; exact hn ⟨x, x1, x2, x3⟩
    · rw [a, ny_tn hv hq (Ne.symm b)] at hn; exact hn h2
  · by_cases b : q = v
    · rw [ny_tn hu hp (Ne.symm a), b] at hn; exact hn h3
    · rw [ny_tn hu hp (Ne.symm a), ny_tn hv hq (Ne.symm b)] at hn; exact hn h4
theorem max_of (f : Nat → Nat) : ∀ l : List Nat, l ≠ [] → ∃ x ∈ l, ∀ y ∈ l, f y ≤ f x
  | [], h => absurd rfl h
  | [a], _ => ⟨a, List.mem_cons_self, fun y hy => by rw [List.mem_singleton.mp hy]; exact Nat.le_refl _⟩
  | a :: b :: l, _ => by
    obtain ⟨x, hx, h⟩ := max_of f (b :: l) (by simp)
    by_cases c : f x ≤ f a
    · exact ⟨a, List.mem_cons_self, fun y hy => (List.mem_cons.mp hy).elim (fun z => z ▸ Nat.le_refl _) fun z => Nat.le_trans (h y z) c⟩
    · exact ⟨x, List.mem_cons_of_mem _ hx, fun y hy => (List.mem_cons.mp hy).elim (fun z => by rw [z]; omega) (h y)⟩
theorem cnt_le {α : Type} {p q : α → Bool} : ∀ {l : List α}, (∀ x ∈ l, p x = true → q x = true) → l.countP p ≤ l.countP q
  | [], _ => Nat.le_refl _
  | a :: l, h => by
    have ih := cnt_le (l := l) fun x hx => h x (List.mem_cons_of_mem _ hx)
    rw [List.countP_cons, List.countP_cons]
    have ha := h a List.mem_cons_self
    cases hp : p a with
    | false => simp; omega
    | true => rw [ha hp]; omega
theorem cnt_lt {α : Type} {p q : α → Bool} : ∀ {l : List α}, (∀ x ∈ l, p x = true → q x = true) → (∃ x ∈ l, q x = true ∧ p x = false) → l.countP p < l.countP q
  | [], _, h => let ⟨_, z, _⟩ := h; nomatch z
  | a :: l, h, ⟨x, hx, h1, h2⟩ => by
    have ha := h a List.mem_cons_self
    rw [List.countP_cons, List.countP_cons]
    rcases List.mem_cons.mp hx with e | e
    · subst e
      have := cnt_le (l := l) fun y hy => h y (List.mem_cons_of_mem _ hy)
      rw [h1, h2]
      simp
      omega
    · have ih := cnt_lt (l := l) (fun y hy => h y (List.mem_cons_of_mem _ hy)) ⟨x, e, h1, h2⟩
      cases hp : p a with
      | false => simp; omega
      | true => rw [ha hp]; omega
def fl (S : List (List Nat)) (n : Nat) (k : List Nat) (i : Nat) : List Nat := (List.range n).map fun j => if SpE S i j then tn (aT k j) else aT k j
theorem fl_at {k : List Nat} {i j : Nat} (hj : j < n) : aT (fl S n k i) j = if SpE S i j then tn (aT k j) else aT k j := by
  unfold aT fl
  rw [List.getD_eq_getElem?_getD, List.getElem?_map, List.getElem?_range hj]
  rfl
theorem fl_half {k : List Nat} (hk : HalfN n k) (i : Nat) : HalfN n (fl S n k i) := by
  refine ⟨by unfold fl; rw [List.length_map, List.length_range], fun c hc => ?_⟩
  obtain ⟨j, hj, rfl⟩ := List.mem_map.mp hc
  split
  · exact tn_ny
  · exact aT_ny hk (List.mem_range.mp hj)
/-- one step from a knot towards another -/
theorem step_to (hs : HS S n) {a b : List Nat} (ha : Kn S n a) (hb : Kn S n b) (hne : a ≠ b) : ∃ i, i < n ∧ aT a i ≠ aT b i ∧ Kn S n (fl S n a i) := by
  have hd : (List.range n).filter (fun i => decide (aT a i ≠ aT b i)) ≠ [] := fun z => hne (half_ext ha.1 hb.1 fun i hi => by
    have := List.filter_eq_nil_iff.mp z i (List.mem_range.mpr hi)
    simpa using this)
  obtain ⟨i, hi, hmx⟩ := max_of (fun i => S.countP fun h => decide (aT h i = aT b i)) _ hd
  have mem : ∀ {j}, j ∈ (List.range n).filter (fun i => decide (aT a i ≠ aT b i)) ↔ j < n ∧ aT a j ≠ aT b j := fun {j} => by
    rw [List.mem_filter, List.mem_range, decide_eq_true_iff]
  obtain ⟨hin, hid⟩ := mem.mp hi
  refine ⟨i, hin, hid, fl_half ha.1 i, fun j j' hj hj' => ?_⟩
  have one : ∀ {j j' : Nat}, j < n → j' < n → SpE S i j → ¬ SpE S i j' → Sh S j j' (tn (aT a j)) (aT a j') := fun {j j'} hj hj' h1 h2 => by
    have dj : aT a j ≠ aT b j := fun z => hid ((sp_eq ha hb hin hj h1).mpr z)
    have ej : tn (aT a j) = aT b j := (ny_tn (aT_ny ha.1 hj) (aT_ny hb.1 hj) dj).symm
    rw [ej]
    by_cases dj' : aT a j' = aT b j'
    · rw [dj']; exact hb.2 j j' hj hj'
    · refine Classical.byContradiction fun hno => ?_
      have sub : ∀ h ∈ S, aT h j = aT b j → aT h j' = aT b j' := fun h hm e => by
        have hny := aT_ny (hs.hh h hm) hj'
        have z : aT h j' ≠ aT a j' := fun z => hno ⟨h, hm, e, z⟩
        rw [ny_tn (aT_ny ha.1 hj') hny (Ne.symm z)]
        exact (ny_tn (aT_ny ha.1 hj') (aT_ny hb.1 hj') dj').symm
      have ex : ∃ h ∈ S, aT h j' = aT b j' ∧ aT h j ≠ aT b j := by
        refine Classical.byContradiction fun hn => h2 (h1.trans fun h hm h' hm' => ?_)
        have eqv : ∀ h ∈ S, (aT h j = aT b j ↔ aT h j' = aT b j') := fun h hm => ⟨sub h hm, fun z => Classical.byContradiction fun y => hn ⟨h, hm, z, y⟩⟩
        have ny : ∀ h ∈ S, ∀ k, k < n → NY (aT h k) := fun h hm k hk => aT_ny (hs.hh h hm) hk
        by_cases c : aT h j = aT b j
        · have c' := (eqv h hm).mp c
          rw [c, c']
          exact ⟨fun z => ((eqv h' hm').mp z.symm).symm, fun z => ((eqv h' hm').mpr z.symm).symm⟩
        · have c' : aT h j' ≠ aT b j' := fun z => c ((eqv h hm).mpr z)
          by_cases e : aT h' j = aT b j
          · have e' := (eqv h' hm').mp e
            rw [e, e']
            exact ⟨fun z => absurd z c, fun z => absurd z c'⟩
          · have e' : aT h' j' ≠ aT b j' := fun z => e ((eqv h' hm').mpr z)
            have nb := aT_ny hb.1 hj
            have nb' := aT_ny hb.1 hj'
            rw [ny_tn nb (ny h hm j hj) (Ne.symm c), ny_tn nb (ny h' hm' j hj) (Ne.symm e), ny_tn nb' (ny h hm j' hj') (Ne.symm c'), ny_tn nb' (ny h' hm' j' hj') (Ne.symm e')]
            exact ⟨fun _ => rfl, fun _ => rfl⟩
      have lt : (S.countP fun h => decide (aT h j = aT b j)) < S.countP fun h => decide (aT h j' = aT b j') := cnt_lt (fun h hm e => by
        rw [decide_eq_true_iff] at *
        exact sub h hm e) (by
        obtain ⟨h, hm, e1, e2⟩ := ex
        exact ⟨h, hm, decide_eq_true e1, decide_eq_false e2⟩)
      have same : (S.countP fun h => decide (aT h j = aT b j)) = S.countP fun h => decide (aT h i = aT b i) := by
        obtain ⟨y, y1, y2, y3⟩ := hb.2 i j hin hj
        refine List.countP_congr fun h hm => ?_
        rw [decide_eq_true_iff, decide_eq_true_iff, ← y2, ← y3]
        exact (h1 h hm y y1).symm
      have := hmx j' (mem.mpr ⟨hj', dj'⟩)
      have this : (S.countP fun h => decide (aT h j' = aT b j')) ≤ S.countP fun h => decide (aT h i = aT b i) := this
      omega
  rw [fl_at hj, fl_at hj']
  by_cases c : SpE S i j
  · rw [if_pos c]
    by_cases c' : SpE S i j'
    · rw [if_pos c']
      have dj : aT a j ≠ aT b j := fun z => hid ((sp_eq ha hb hin hj c).mpr z)
      have dj' : aT a j' ≠ aT b j' := fun z => hid ((sp_eq ha hb hin hj' c').mpr z)
      rw [← ny_tn (aT_ny ha.1 hj) (aT_ny hb.1 hj) dj, ← ny_tn (aT_ny ha.1 hj') (aT_ny hb.1 hj') dj']
      exact hb.2 j j' hj hj'
    · rw [if_neg c']
      exact one hj hj' c c'
  · rw [if_neg c]
    by_cases c' : SpE S i j'
    · rw [if_pos c']
      exact (one hj' hj c' c).symm
    · rw [if_neg c']
      exact ha.2 j j' hj hj'
/-- two knots that are unlike at just the places parted as i -/
def Tie (S : List (List Nat)) (n : Nat) (a b : List Nat) (i : Nat) : Prop := Kn S n a ∧ Kn S n b ∧ i < n ∧ ∀ j, j < n → (aT a j ≠ aT b j ↔ SpE S i j)
theorem Tie.symm {a b : List Nat} {i : Nat} (h : Tie S n a b i) : Tie S n b a i := ⟨h.2.1, h.1, h.2.2.1, fun j hj => ⟨fun z => (h.2.2.2 j hj).mp (Ne.symm z), fun z => Ne.symm ((h.2.2.2 j hj).mpr z)⟩⟩
theorem Tie.at_ {a b : List Nat} {i j : Nat} (h : Tie S n a b i) (hj : j < n) (e : SpE S i j) : Tie S n a b j := ⟨h.1, h.2.1, hj, fun k hk => (h.2.2.2 k hk).trans ⟨fun z => e.symm.trans z, fun z => e.trans z⟩⟩
theorem Tie.ne {a b : List Nat} {i : Nat} (h : Tie S n a b i) : aT a i ≠ aT b i := (h.2.2.2 i h.2.2.1).mpr (SpE.refl _ _)
theorem tie_fl {a : List Nat} {i : Nat} (ha : Kn S n a) (hi : i < n) (h : Kn S n (fl S n a i)) : Tie S n a (fl S n a i) i := ⟨ha, h, hi, fun j hj => by
  rw [fl_at hj]
  by_cases c : SpE S i j
  · rw [if_pos c]; exact ⟨fun _ => c, fun _ => Ne.symm tn_ne⟩
  · rw [if_neg c]; exact ⟨fun z => absurd rfl z, fun z => absurd z c⟩⟩
theorem tie_uniq (hs : HS S n) {a b a' b' : List Nat} {i : Nat} (h : Tie S n a b i) (h' : Tie S n a' b' i) (e : aT a i = aT a' i) : a = a' ∧ b = b' := by
  obtain ⟨ka, kb, hi, hd⟩ := h
  obtain ⟨ka', kb', _, hd'⟩ := h'
  have nb : aT b i = tn (aT a i) := ny_tn (aT_ny ka.1 hi) (aT_ny kb.1 hi) ((hd i hi).mpr (SpE.refl _ _))
  have nb' : aT b' i = tn (aT a i) := by rw [e]; exact ny_tn (aT_ny ka'.1 hi) (aT_ny kb'.1 hi) ((hd' i hi).mpr (SpE.refl _ _))
  have key : ∀ j, j < n → aT a j = aT a' j := fun j hj => by
    by_cases c : SpE S i j
    · exact (sp_eq ka ka' hi hj c).mp e
    · have e1 : aT a j = aT b j := Classical.byContradiction fun z => c ((hd j hj).mp z)
      have e2 : aT a' j = aT b' j := Classical.byContradiction fun z => c ((hd' j hj).mp z)
      refine Classical.byContradiction fun z => ?_
      have hij : i ≠ j := fun q => c (q ▸ SpE.refl _ _)
      have t : aT a' j = tn (aT a j) := ny_tn (aT_ny ka.1 hj) (aT_ny ka'.1 hj) z
      refine no_four hs hi hj hij (ka.2 i j hi hj) ?_ ?_ ?_
      · rw [← t, e]; exact ka'.2 i j hi hj
      · rw [← nb, e1]; exact kb.2 i j hi hj
      · rw [← nb', ← t, e2]; exact kb'.2 i j hi hj
  refine ⟨half_ext ka.1 ka'.1 key, half_ext kb.1 kb'.1 fun j hj => ?_⟩
  by_cases c : SpE S i j
  · rw [ny_tn (aT_ny ka.1 hj) (aT_ny kb.1 hj) ((hd j hj).mpr c), ny_tn (aT_ny ka'.1 hj) (aT_ny kb'.1 hj) ((hd' j hj).mpr c), key j hj]
  · have e1 : aT a j = aT b j := Classical.byContradiction fun z => c ((hd j hj).mp z)
    have e2 : aT a' j = aT b' j := Classical.byContradiction fun z => c ((hd' j hj).mp z)
    rw [← e1, ← e2, key j hj]
def dif (n : Nat) (a b : List Nat) : Nat := (List.range n).countP fun i => decide (aT a i ≠ aT b i)
theorem dif_fl (hs : HS S n) {a b : List Nat} {i : Nat} (ha : Kn S n a) (hb : Kn S n b) (hi : i < n) (h : aT a i ≠ aT b i) : dif n (fl S n a i) b < dif n a b := by
  unfold dif
  refine cnt_lt (fun j hj e => ?_) ⟨i, List.mem_range.mpr hi, decide_eq_true h, ?_⟩
  · have hj := List.mem_range.mp hj
    rw [decide_eq_true_iff] at *
    rw [fl_at hj] at e
    by_cases c : SpE S i j
    · exact fun z => h ((sp_eq ha hb hi hj c).mpr z)
    · rw [if_neg c] at e; exact e
  · refine decide_eq_false fun z => z ?_
    rw [fl_at hi, if_pos (SpE.refl _ _)]
    exact (ny_tn (aT_ny ha.1 hi) (aT_ny hb.1 hi) h).symm
/-- from a to b by ties: what holds at a and is kept by ties that go nearer holds at b -/
theorem walk_to (hs : HS S n) {b : List Nat} (hb : Kn S n b) {P : List Nat → Prop} (hstep : ∀ a i, Kn S n a → P a → i < n → aT a i ≠ aT b i → Kn S n (fl S n a i) → P (fl S n a i)) : ∀ (m : Nat) {a : List Nat}, dif n a b ≤ m → Kn S n a → P a → P b
  | m, a, hm, ha, hp => by
    by_cases e : a = b
    · exact e ▸ hp
    · obtain ⟨i, hi, hd, hk⟩ := step_to hs ha hb e
      have lt := dif_fl hs ha hb hi hd
      match m, hm with
      | 0, hm => omega
      | m + 1, hm => exact walk_to hs hb hstep m (by omega) hk (hstep a i ha hp hi hd hk)
theorem tie_at (hs : HS S n) {i : Nat} (hi : i < n) (h : Nc S i) : ∃ a b, Tie S n a b i := by
  obtain ⟨x, x1, y, y1, hne⟩ := h
  refine Classical.byContradiction fun hno => ?_
  refine hne.symm (walk_to hs (kn_of hs y1) (P := fun k => aT k i = aT x i) (fun a j ha hp hj hd hk => ?_) _ (Nat.le_refl _) (kn_of hs x1) rfl)
  rw [fl_at hi]
  by_cases c : SpE S j i
  · exact absurd ⟨_, _, (tie_fl ha hj hk).at_ hi c⟩ hno
  · rw [if_neg c]; exact hp
/-- two classes in which a knot goes towards r are one -/
theorem far_one (hs : HS S n) {r b : List Nat} (hr : Kn S n r) {c d : List Nat} {i j : Nat} (h1 : Tie S n b c i) (h2 : Tie S n b d j) (e1 : aT b i ≠ aT r i) (e2 : aT b j ≠ aT r j) : SpE S i j := by
  refine Classical.byContradiction fun hno => ?_
  obtain ⟨kb, kc, hi, hc⟩ := h1
  obtain ⟨_, kd, hj, hdd⟩ := h2
  have hij : i ≠ j := fun q => hno (q ▸ SpE.refl _ _)
  have ri := ny_tn (aT_ny kb.1 hi) (aT_ny hr.1 hi) e1
  have rj := ny_tn (aT_ny kb.1 hj) (aT_ny hr.1 hj) e2
  have ci : aT c i = tn (aT b i) := ny_tn (aT_ny kb.1 hi) (aT_ny kc.1 hi) ((hc i hi).mpr (SpE.refl _ _))
  have cj : aT b j = aT c j := Classical.byContradiction fun z => hno ((hc j hj).mp z)
  have dj : aT d j = tn (aT b j) := ny_tn (aT_ny kb.1 hj) (aT_ny kd.1 hj) ((hdd j hj).mpr (SpE.refl _ _))
  have di : aT b i = aT d i := Classical.byContradiction fun z => hno ((hdd i hi).mp z).symm
  refine no_four hs hi hj hij (kb.2 i j hi hj) ?_ ?_ ?_
  · rw [← dj, di]; exact kd.2 i j hi hj
  · rw [← ci, cj]; exact kc.2 i j hi hj
  · rw [← ri, ← rj]; exact hr.2 i j hi hj
/-- a knot that isn't told has ties in three classes -/
theorem three_ties (hs : HS S n) {k : List Nat} (hk : Kn S n k) (hno : k ∉ S) : ∃ i j l, (i < n ∧ j < n ∧ l < n) ∧ (Kn S n (fl S n k i) ∧ Kn S n (fl S n k j) ∧ Kn S n (fl S n k l)) ∧ ¬ SpE S i j ∧ ¬ SpE S i l ∧ ¬ SpE S j l := by
  have tow : ∀ h ∈ S, ∃ i, i < n ∧ aT k i ≠ aT h i ∧ Kn S n (fl S n k i) := fun h hm => step_to hs hk (kn_of hs hm) fun e => hno (e ▸ hm)
  obtain ⟨h0, hm0⟩ := List.exists_mem_of_ne_nil _ hs.ne
  obtain ⟨i, hi, _, ki⟩ := tow h0 hm0
  obtain ⟨h1, hm1, e1, _⟩ := hk.2 i i hi hi
  obtain ⟨j, hj, dj, kj⟩ := tow h1 hm1
  have nij : ¬ SpE S i j := fun c => dj ((sp_eq hk (kn_of hs hm1) hi hj c).mp e1.symm)
  obtain ⟨h2, hm2, e2, e3⟩ := hk.2 i j hi hj
  obtain ⟨l, hl, dl, kl⟩ := tow h2 hm2
  exact ⟨i, j, l, ⟨hi, hj, hl⟩, ⟨ki, kj, kl⟩, nij, fun c => dl ((sp_eq hk (kn_of hs hm2) hi hl c).mp e2.symm), fun c => dl ((sp_eq hk (kn_of hs hm2) hj hl c).mp e3.symm)⟩
/-- ties go out of every lot of knots that isn't all -/
theorem tie_out (hs : HS S n) {F : List Nat → Prop} {a b : List Nat} (ha : Kn S n a) (hb : Kn S n b) (fa : F a) (fb : ¬ F b) : ∃ c d i, Tie S n c d i ∧ F c ∧ ¬ F d := by
  refine Classical.byContradiction fun hno => fb ?_
  refine walk_to hs hb (P := F) (fun c i hc fc hi hd hk => Classical.byContradiction fun z => hno ⟨c, _, i, tie_fl hc hi hk, fc, z⟩) _ (Nat.le_refl _) ha fa
end
end Hid

namespace Hid
open PySem PySem.Spec PyProof.Rows L2
/-! the knots and ties as they are made -/
def shB (S : List (List Nat)) (s : List Nat) : Bool := (List.range s.length).all fun p => S.any fun h => decide (aT h p = aT s p ∧ aT h (s.length - 1) = aT s (s.length - 1))
def knL (S : List (List Nat)) : Nat → List (List Nat)
  | 0 => [[]]
  | k + 1 => ((knL S k).flatMap fun s => [s ++ [110], s ++ [121]]).filter (shB S)
theorem aT_app {s : List Nat} {c i : Nat} (hi : i < s.length) : aT (s ++ [c]) i = aT s i := by
  unfold aT
  rw [List.getD_eq_getElem?_getD, List.getD_eq_getElem?_getD, List.getElem?_append_left hi]
theorem aT_last {s : List Nat} {c : Nat} : aT (s ++ [c]) s.length = c := by
  unfold aT
  rw [List.getD_eq_getElem?_getD, List.getElem?_append_right (Nat.le_refl _), Nat.sub_self]
  rfl
theorem shB_snoc {S : List (List Nat)} {s : List Nat} {c : Nat} : shB S (s ++ [c]) = true ↔ (∀ p, p < s.length → Sh S p s.length (aT s p) c) ∧ Sh S s.length s.length c c := by
  unfold shB
  rw [List.all_eq_true]
  have hl : (s ++ [c]).length = s.length + 1 := by rw [List.length_append]; rfl
  rw [hl, Nat.add_sub_cancel, aT_last]
  have one : ∀ p, (S.any fun h => decide (aT h p = aT (s ++ [c]) p ∧ aT h s.length = c)) = true ↔ Sh S p s.length (aT (s ++ [c]) p) c := fun p => by
    rw [List.any_eq_true]
    exact ⟨fun ⟨h, hm, e⟩ => ⟨h, hm, of_decide_eq_true e⟩, fun ⟨h, hm, e⟩ => ⟨h, hm, decide_eq_true e⟩⟩
  refine ⟨fun h => ⟨fun p hp => ?_, ?_⟩, fun ⟨h1, h2⟩ p hp => ?_⟩
  · have := (one p).mp (h p (List.mem_range.mpr (by omega)))
    rw [aT_app hp] at this
    exact this
  · have := (one s.length).mp (h s.length (List.mem_range.mpr (by omega)))
    rw [aT_last] at this
    exact this
  · rw [one p]
    have hp := List.mem_range.mp hp
    by_cases e : p = s.length
    · subst e; rw [aT_last]; exact h2
    · rw [aT_app (by omega)]; exact h1 p (by omega)
theorem knL_mem (S : List (List Nat)) : ∀ (k : Nat) (s : List Nat), s ∈ knL S k ↔ HalfN k s ∧ ∀ i j, i ≤ j → j < k → Sh S i j (aT s i) (aT s j)
  | 0, s => by
    show s ∈ [[]] ↔ _
    rw [List.mem_singleton]
    exact ⟨fun h => by rw [h]; exact ⟨⟨rfl, fun c hc => nomatch hc⟩, fun _ _ _ h => absurd h (Nat.not_lt_zero _)⟩, fun h => List.length_eq_zero_iff.mp h.1.1⟩
  | k + 1, s => by
    show s ∈ ((knL S k).flatMap fun s => [s ++ [110], s ++ [121]]).filter (shB S) ↔ _
    rw [List.mem_filter, List.mem_flatMap]
    constructor
    · rintro ⟨⟨r, hr, hs⟩, hb⟩
      obtain ⟨hrh, hrs⟩ := (knL_mem S k r).mp hr
      obtain ⟨c, hc, rfl⟩ : ∃ c, NY c ∧ s = r ++ [c] := by
        rcases List.mem_cons.mp hs with e | e
        · exact ⟨110, .inl rfl, e⟩
        · exact ⟨121, .inr rfl, List.mem_singleton.mp e⟩
      obtain ⟨h1, h2⟩ := shB_snoc.mp hb
      rw [hrh.1] at h1 h2
      refine ⟨⟨by rw [List.length_append, hrh.1]; rfl, fun d hd => ?_⟩, fun i j hij hj => ?_⟩
      · rcases List.mem_append.mp hd with z | z
        · exact hrh.2 d z
        · rw [List.mem_singleton.mp z]; exact hc
      · have hl := hrh.1
        by_cases ej : j = k
        · subst ej
          have e2 : aT (r ++ [c]) j = c := by rw [← hl]; exact aT_last
          rw [e2]
          by_cases ei : i = j
          · subst ei; rw [e2]; exact h2
          · rw [aT_app (by omega)]; exact h1 i (by omega)
        · rw [aT_app (by omega), aT_app (by omega)]
          exact hrs i j hij (by omega)
    · rintro ⟨hh, hs⟩
      have hl := hh.1
      obtain ⟨r, c, rfl⟩ : ∃ r c, s = r ++ [c] := ⟨s.dropLast, s.getLast (by intro z; rw [z] at hl; cases hl), (List.dropLast_concat_getLast _).symm⟩
      have hrl : r.length = k := by rw [List.length_append] at hl; exact Nat.succ.inj hl
      have hc : NY c := hh.2 c (List.mem_append_right _ (List.mem_singleton.mpr rfl))
      refine ⟨⟨r, (knL_mem S k r).mpr ⟨⟨hrl, fun d hd => hh.2 d (List.mem_append_left _ hd)⟩, fun i j hij hj => ?_⟩, ?_⟩, shB_snoc.mpr ⟨fun p hp => ?_, ?_⟩⟩
      · have := hs i j hij (by omega)
        rw [aT_app (by omega), aT_app (by omega)] at this
        exact this
      · rcases hc with e | e
        · rw [e]; exact List.mem_cons_self
        · rw [e]; exact List.mem_cons_of_mem _ (List.mem_singleton.mpr rfl)
      · have := hs p r.length (by omega) (by omega)
        rw [aT_app hp, aT_last] at this
        exact this
      · have := hs r.length r.length (Nat.le_refl _) (by omega)
        rw [aT_last] at this
        exact this
theorem knL_iff {S : List (List Nat)} {n : Nat} {k : List Nat} : k ∈ knL S n ↔ Kn S n k := (knL_mem S n k).trans kn_iff.symm
theorem lt_app {a b : List Nat} (h : a < b) (hl : a.length = b.length) (x y : List Nat) : a ++ x < b ++ y := by
  induction a generalizing b with
  | nil =>
    cases b with
    | nil => exact absurd h (List.lt_irrefl _)
    | cons c b => cases hl
  | cons c a ih =>
    cases b with
    | nil => cases hl
    | cons d b =>
      rw [List.cons_append, List.cons_append]
      rcases List.cons_lt_cons_iff.mp h with z | ⟨z1, z2⟩
      · exact List.cons_lt_cons_iff.mpr (.inl z)
      · exact List.cons_lt_cons_iff.mpr (.inr ⟨z1, ih z2 (Nat.succ.inj hl)⟩)
theorem lt_pre : ∀ (a : List Nat) {c d : Nat}, c < d → a ++ [c] < a ++ [d]
  | [], c, d, h => List.cons_lt_cons_iff.mpr (.inl h)
  | x :: a, c, d, h => List.cons_lt_cons_iff.mpr (.inr ⟨rfl, lt_pre a h⟩)
theorem knL_pw (S : List (List Nat)) : ∀ k, (knL S k).Pairwise (· < ·)
  | 0 => List.pairwise_singleton _ _
  | k + 1 => by
    refine List.Pairwise.filter _ (List.pairwise_flatMap.mpr ⟨fun s _ => ?_, List.Pairwise.imp_of_mem (fun {a b} ha hb h x hx y hy => ?_) (knL_pw S k)⟩)
    · exact List.pairwise_cons.mpr ⟨fun z hz => by rw [List.mem_singleton.mp hz]; exact lt_pre s (by decide), List.pairwise_singleton _ _⟩
    · have la := ((knL_mem S k a).mp ha).1.1
      have lb := ((knL_mem S k b).mp hb).1.1
      have g : ∀ {s x : List Nat}, x ∈ [s ++ [110], s ++ [121]] → ∃ c, x = s ++ [c] := fun {s x} h => by
        rcases List.mem_cons.mp h with e | e
        · exact ⟨_, e⟩
        · exact ⟨_, List.mem_singleton.mp e⟩
      obtain ⟨c, rfl⟩ := g hx
      obtain ⟨d, rfl⟩ := g hy
      exact lt_app h (by rw [la, lb]) _ _
theorem knL_len (S : List (List Nat)) : ∀ k, (knL S k).length ≤ 2 ^ k
  | 0 => Nat.le_refl _
  | k + 1 => by
    refine Nat.le_trans (List.length_filter_le _ _) ?_
    have h1 : ∀ l : List (List Nat), (l.flatMap fun s => [s ++ [110], s ++ [121]]).length = l.length * 2 := by
      intro l
      induction l with
      | nil => rfl
      | cons a l ih => rw [List.flatMap_cons, List.length_append, ih]; simp; omega
    rw [h1, Nat.pow_succ]
    exact Nat.mul_le_mul_right _ (knL_len S k)
def paT (S : List (List Nat)) (h0 : List Nat) (p : Nat) : List Nat := S.map fun h => if aT h p = aT h0 p then 121 else 110
def unl (a b : List Nat) : List Nat := (List.range a.length).filter fun i => decide (aT a i ≠ aT b i)
def tgB (S : List (List Nat)) (h0 : List Nat) (ps : List Nat) : Bool := decide ((putAll [] (ps.map fun p => tx (paT S h0 p))).length = 1)
theorem one_len {l : List Str} (hd : l.Nodup) : l.length = 1 ↔ l ≠ [] ∧ ∀ x ∈ l, ∀ y ∈ l, x = y := by
  match l, hd with
  | [], _ => exact ⟨fun h => (by cases h), fun h => absurd rfl h.1⟩
  | [a], _ => exact ⟨fun _ => ⟨by simp, fun x hx y hy => by rw [List.mem_singleton.mp hx, List.mem_singleton.mp hy]⟩, fun _ => rfl⟩
  | a :: b :: l, hd =>
    refine ⟨fun h => ?_, fun h => ?_⟩
    · simp at h
    · have := h.2 a List.mem_cons_self b (List.mem_cons_of_mem _ List.mem_cons_self)
      exact absurd (this ▸ List.mem_cons_self) (List.nodup_cons.mp hd).1
theorem tgB_iff {S : List (List Nat)} {h0 : List Nat} {ps : List Nat} : tgB S h0 ps = true ↔ ps ≠ [] ∧ ∀ i ∈ ps, ∀ j ∈ ps, paT S h0 i = paT S h0 j := by
  unfold tgB
  rw [decide_eq_true_iff, one_len (putAll_nodup _ _ List.nodup_nil)]
  have mem : ∀ x, x ∈ putAll [] (ps.map fun p => tx (paT S h0 p)) ↔ ∃ p ∈ ps, x = tx (paT S h0 p) := fun x => by
    rw [putAll_mem, List.mem_map]
    exact ⟨fun h => h.elim (fun z => nomatch z) fun ⟨p, a, b⟩ => ⟨p, a, b.symm⟩, fun ⟨p, a, b⟩ => .inr ⟨p, a, b.symm⟩⟩
  refine ⟨fun ⟨h1, h2⟩ => ⟨fun z => h1 (by rw [z]; rfl), fun i hi j hj => tx_inj (h2 _ ((mem _).mpr ⟨i, hi, rfl⟩) _ ((mem _).mpr ⟨j, hj, rfl⟩))⟩, fun ⟨h1, h2⟩ => ⟨fun z => ?_, fun x hx y hy => ?_⟩⟩
  · obtain ⟨p, hp⟩ := List.exists_mem_of_ne_nil _ h1
    have := (mem (tx (paT S h0 p))).mpr ⟨p, hp, rfl⟩
    rw [z] at this
    cases this
  · obtain ⟨i, hi, rfl⟩ := (mem x).mp hx
    obtain ⟨j, hj, rfl⟩ := (mem y).mp hy
    rw [h2 i hi j hj]
section
variable {S : List (List Nat)} {n : Nat} {h0 : List Nat}
theorem pa_sp (hs : HS S n) (h0m : h0 ∈ S) {i j : Nat} (hi : i < n) (hj : j < n) : paT S h0 i = paT S h0 j ↔ SpE S i j := by
  have e : paT S h0 i = paT S h0 j ↔ ∀ h ∈ S, (aT h i = aT h0 i ↔ aT h j = aT h0 j) := by
    unfold paT
    rw [List.map_inj_left]
    refine forall_congr' fun h => forall_congr' fun _ => ?_
    by_cases a : aT h i = aT h0 i <;> by_cases b : aT h j = aT h0 j <;> simp [a, b]
  rw [e]
  refine ⟨fun h x hx y hy => ?_, fun h x hx => h x hx h0 h0m⟩
  have nx : ∀ {k}, k < n → NY (aT x k) := fun {k} hk => aT_ny (hs.hh x hx) hk
  have ny : ∀ {k}, k < n → NY (aT y k) := fun {k} hk => aT_ny (hs.hh y hy) hk
  have n0 : ∀ {k}, k < n → NY (aT h0 k) := fun {k} hk => aT_ny (hs.hh h0 h0m) hk
  have hx' := h x hx
  have hy' := h y hy
  by_cases a : aT x i = aT h0 i
  · by_cases b : aT y i = aT h0 i
    · rw [a, b, hx'.mp a, hy'.mp b]; simp
    · have b' : aT y j ≠ aT h0 j := fun z => b (hy'.mpr z)
      rw [a, hx'.mp a]
      exact ⟨fun z => absurd z.symm b, fun z => absurd z.symm b'⟩
  · have a' : aT x j ≠ aT h0 j := fun z => a (hx'.mpr z)
    by_cases b : aT y i = aT h0 i
    · rw [b, hy'.mp b]
      exact ⟨fun z => absurd z a, fun z => absurd z a'⟩
    · have b' : aT y j ≠ aT h0 j := fun z => b (hy'.mpr z)
      rw [ny_tn (n0 hi) (nx hi) (Ne.symm a), ny_tn (n0 hi) (ny hi) (Ne.symm b), ny_tn (n0 hj) (nx hj) (Ne.symm a'), ny_tn (n0 hj) (ny hj) (Ne.symm b')]
      simp
theorem unl_mem {a b : List Nat} (ha : a.length = n) {i : Nat} : i ∈ unl a b ↔ i < n ∧ aT a i ≠ aT b i := by
  unfold unl
  rw [List.mem_filter, List.mem_range, decide_eq_true_iff, ha]
theorem tg_tie (hs : HS S n) (h0m : h0 ∈ S) {a b : List Nat} (ha : Kn S n a) (hb : Kn S n b) : tgB S h0 (unl a b) = true ↔ ∃ i, Tie S n a b i := by
  rw [tgB_iff]
  have mem : ∀ {i}, i ∈ unl a b ↔ i < n ∧ aT a i ≠ aT b i := unl_mem ha.1.1
  refine ⟨fun ⟨h1, h2⟩ => ?_, fun ⟨i, _, _, hi, hd⟩ => ⟨fun z => ?_, fun j hj k hk => ?_⟩⟩
  · obtain ⟨i, hi⟩ := List.exists_mem_of_ne_nil _ h1
    obtain ⟨hin, hid⟩ := mem.mp hi
    refine ⟨i, ha, hb, hin, fun j hj => ⟨fun z => (pa_sp hs h0m hin hj).mp (h2 i hi j (mem.mpr ⟨hj, z⟩)), fun z y => hid ((sp_eq ha hb hin hj z).mpr y)⟩⟩
  · have := mem.mpr ⟨hi, (hd i hi).mpr (SpE.refl _ _)⟩
    rw [z] at this
    cases this
  · obtain ⟨hjn, hjd⟩ := mem.mp hj
    obtain ⟨hkn, hkd⟩ := mem.mp hk
    exact (pa_sp hs h0m hjn hkn).mpr (((hd j hjn).mp hjd).symm.trans ((hd k hkn).mp hkd))
end
abbrev Tp := List Nat × List Nat
theorem nd_len {α : Type} [DecidableEq α] : ∀ {l m : List α}, l.Nodup → (∀ x ∈ l, x ∈ m) → l.length ≤ m.length
  | [], _, _, _ => Nat.zero_le _
  | a :: l, m, hd, h => by
    obtain ⟨h1, h2⟩ := List.nodup_cons.mp hd
    have ha := h a List.mem_cons_self
    have ih := nd_len (l := l) (m := m.erase a) h2 fun x hx => (List.mem_erase_of_ne fun (e : x = a) => h1 (e ▸ hx)).mpr (h x (List.mem_cons_of_mem _ hx))
    rw [List.length_erase_of_mem ha] at ih
    have : 0 < m.length := List.length_pos_of_mem ha
    rw [List.length_cons]
    omega
def tiA (S : List (List Nat)) (h0 : List Nat) (K : List (List Nat)) (i : Nat) : List Tp := ((K.drop (i + 1)).filter fun b => tgB S h0 (unl (K.getD i []) b)).map fun b => (K.getD i [], b)
def tiL (S : List (List Nat)) (h0 : List Nat) (K : List (List Nat)) : List Tp := (List.range K.length).flatMap (tiA S h0 K)
theorem pw_drop {K : List (List Nat)} (hp : K.Pairwise (· < ·)) {i : Nat} (hi : i < K.length) {b : List Nat} : b ∈ K.drop (i + 1) ↔ b ∈ K ∧ K.getD i [] < b := by
  have hg : K.getD i [] = K[i] := by rw [List.getD_eq_getElem?_getD, List.getElem?_eq_getElem hi]; rfl
  rw [hg]
  have hpw := List.pairwise_iff_getElem.mp hp
  constructor
  · intro h
    obtain ⟨j, hj, e⟩ := List.mem_iff_getElem.mp h
    rw [List.getElem_drop] at e
    rw [List.length_drop] at hj
    refine ⟨List.mem_of_mem_drop h, ?_⟩
    rw [← e]
    exact hpw i (i + 1 + j) hi (by omega) (by omega)
  · rintro ⟨h1, h2⟩
    obtain ⟨j, hj, e⟩ := List.mem_iff_getElem.mp h1
    have hij : i < j := by
      rcases Nat.lt_trichotomy i j with z | z | z
      · exact z
      · subst z; rw [e] at h2; exact absurd h2 (List.lt_irrefl _)
      · have := hpw j i hj hi z
        rw [e] at this
        exact absurd (List.lt_trans h2 this) (List.lt_irrefl _)
    rw [List.mem_iff_getElem]
    refine ⟨j - (i + 1), by rw [List.length_drop]; omega, ?_⟩
    rw [List.getElem_drop]
    have : i + 1 + (j - (i + 1)) = j := by omega
    simp only [this]
    exact e
theorem tiL_mem {S : List (List Nat)} {n : Nat} {h0 : List Nat} (hs : HS S n) (h0m : h0 ∈ S) {p : Tp} : p ∈ tiL S h0 (knL S n) ↔ p.1 < p.2 ∧ ∃ i, Tie S n p.1 p.2 i := by
  have hp := knL_pw S n
  unfold tiL tiA
  rw [List.mem_flatMap]
  constructor
  · rintro ⟨i, hi, h⟩
    have hi := List.mem_range.mp hi
    obtain ⟨b, hb, rfl⟩ := List.mem_map.mp h
    obtain ⟨hb1, hb2⟩ := List.mem_filter.mp hb
    obtain ⟨hb3, hb4⟩ := (pw_drop hp hi).mp hb1
    have ha : (knL S n).getD i [] ∈ knL S n := by
      rw [List.getD_eq_getElem?_getD, List.getElem?_eq_getElem hi]
      exact List.getElem_mem hi
    exact ⟨hb4, (tg_tie hs h0m (knL_iff.mp ha) (knL_iff.mp hb3)).mp hb2⟩
  · rintro ⟨h1, i, h2⟩
    obtain ⟨j, hj, e⟩ := List.mem_iff_getElem.mp (knL_iff.mpr h2.1)
    have hg : (knL S n).getD j [] = p.1 := by rw [List.getD_eq_getElem?_getD, List.getElem?_eq_getElem hj]; exact e
    refine ⟨j, List.mem_range.mpr hj, List.mem_map.mpr ⟨p.2, List.mem_filter.mpr ⟨(pw_drop hp hj).mpr ⟨knL_iff.mpr h2.2.1, by rw [hg]; exact h1⟩, ?_⟩, by rw [hg]⟩⟩
    rw [hg]
    exact (tg_tie hs h0m h2.1 h2.2.1).mpr ⟨i, h2⟩
def LtP (p q : Tp) : Prop := p.1 < q.1 ∨ (p.1 = q.1 ∧ p.2 < q.2)
theorem tiL_pw (S : List (List Nat)) (h0 : List Nat) {K : List (List Nat)} (hp : K.Pairwise (· < ·)) : (tiL S h0 K).Pairwise LtP := by
  unfold tiL
  refine List.pairwise_flatMap.mpr ⟨fun i _ => ?_, List.Pairwise.imp_of_mem (fun {i j} hi hj h x hx y hy => ?_) List.pairwise_lt_range⟩
  · exact List.pairwise_map.mpr (((hp.sublist (List.drop_sublist _ _)).filter _).imp fun h => .inr ⟨rfl, h⟩)
  · have hi := List.mem_range.mp hi
    have hj := List.mem_range.mp hj
    obtain ⟨_, _, rfl⟩ := List.mem_map.mp hx
    obtain ⟨_, _, rfl⟩ := List.mem_map.mp hy
    refine .inl ?_
    show K.getD i [] < K.getD j []
    rw [List.getD_eq_getElem?_getD, List.getD_eq_getElem?_getD, List.getElem?_eq_getElem hi, List.getElem?_eq_getElem hj]
    exact List.pairwise_iff_getElem.mp hp i j hi hj h
theorem ltP_ne {p q : Tp} (h : LtP p q) : p ≠ q := fun e => by
  rw [e] at h
  rcases h with z | ⟨_, z⟩ <;> exact List.lt_irrefl _ z
theorem tiL_nodup (S : List (List Nat)) (h0 : List Nat) {K : List (List Nat)} (hp : K.Pairwise (· < ·)) : (tiL S h0 K).Nodup := (tiL_pw S h0 hp).imp fun h => ltP_ne h
theorem knL_nodup (S : List (List Nat)) (k : Nat) : (knL S k).Nodup := (knL_pw S k).imp fun h e => by rw [e] at h; exact List.lt_irrefl _ h
section
variable {S : List (List Nat)} {n : Nat} {h0 : List Nat}
def farK (r : List Nat) (p : Tp) : List Nat := if ((unl p.1 p.2).any fun i => decide (aT p.1 i ≠ aT r i)) = true then p.1 else p.2
theorem tie_le {a b : List Nat} {i : Nat} (h : Tie S n a b i) : a < b ∨ b < a := by
  by_cases x : a < b
  · exact .inl x
  · by_cases y : b < a
    · exact .inr y
    · exact absurd (by rw [List.le_antisymm (List.not_lt.mp y) (List.not_lt.mp x)]) h.ne
theorem far_at (hs : HS S n) {r a b : List Nat} {i : Nat} (hr : Kn S n r) (h : Tie S n a b i) : (aT a i ≠ aT r i ∧ farK r (a, b) = a) ∨ (aT b i ≠ aT r i ∧ farK r (a, b) = b) := by
  have hi := h.2.2.1
  have all : ∀ j ∈ unl a b, (aT a j ≠ aT r j ↔ aT a i ≠ aT r i) := fun j hj => by
    obtain ⟨hjn, hjd⟩ := (unl_mem h.1.1.1).mp hj
    have := sp_eq h.1 hr hi hjn ((h.2.2.2 j hjn).mp hjd)
    exact not_congr this.symm
  by_cases c : aT a i ≠ aT r i
  · refine .inl ⟨c, ?_⟩
    unfold farK
    rw [if_pos (List.any_eq_true.mpr ⟨i, (unl_mem h.1.1.1).mpr ⟨hi, h.ne⟩, decide_eq_true c⟩)]
  · have c' : aT a i = aT r i := Classical.byContradiction fun z => c z
    refine .inr ⟨fun z => h.ne (c'.trans z.symm), ?_⟩
    unfold farK
    rw [if_neg fun z => by
      obtain ⟨j, hj, e⟩ := List.any_eq_true.mp z
      exact c ((all j hj).mp (of_decide_eq_true e))]
theorem far_inj (hs : HS S n) (h0m : h0 ∈ S) {r : List Nat} (hr : Kn S n r) {p q : Tp} (hp : p ∈ tiL S h0 (knL S n)) (hq : q ∈ tiL S h0 (knL S n)) (e : farK r p = farK r q) : p = q := by
  obtain ⟨l1, i, t1⟩ := (tiL_mem hs h0m).mp hp
  obtain ⟨l2, j, t2⟩ := (tiL_mem hs h0m).mp hq
  have mk : ∀ {a b : List Nat} {i : Nat}, Tie S n a b i → ∃ c d, Tie S n c d i ∧ farK r (a, b) = c ∧ aT c i ≠ aT r i ∧ ((c = a ∧ d = b) ∨ (c = b ∧ d = a)) := fun {a b i} t => by
    rcases far_at hs hr t with ⟨z1, z2⟩ | ⟨z1, z2⟩
    · exact ⟨a, b, t, z2, z1, .inl ⟨rfl, rfl⟩⟩
    · exact ⟨b, a, t.symm, z2, z1, .inr ⟨rfl, rfl⟩⟩
  obtain ⟨c, d, u1, f1, n1, w1⟩ := mk t1
  obtain ⟨c', d', u2, f2, n2, w2⟩ := mk t2
  have ec : c = c' := by rw [← f1, ← f2]; exact e
  subst ec
  have hsp := far_one hs hr u1 u2 n1 n2
  have := (tie_uniq hs u1 (u2.at_ u1.2.2.1 hsp.symm) rfl).2
  subst this
  obtain ⟨p1, p2⟩ := p
  obtain ⟨q1, q2⟩ := q
  rcases w1 with ⟨a1, a2⟩ | ⟨a1, a2⟩ <;> rcases w2 with ⟨b1, b2⟩ | ⟨b1, b2⟩ <;> dsimp only at a1 a2 b1 b2 l1 l2 <;> subst a1 a2
  · rw [b1, b2]
  · rw [b1, b2] at l1; exact absurd (List.lt_trans l1 l2) (List.lt_irrefl _)
  · rw [b1, b2] at l1; exact absurd (List.lt_trans l1 l2) (List.lt_irrefl _)
  · rw [b1, b2]
theorem far_mem (hs : HS S n) (h0m : h0 ∈ S) {r : List Nat} (hr : Kn S n r) {k : List Nat} : k ∈ (tiL S h0 (knL S n)).map (farK r) ↔ k ∈ (knL S n).filter fun x => decide (x ≠ r) := by
  rw [List.mem_map, List.mem_filter, decide_eq_true_iff]
  constructor
  · rintro ⟨p, hp, rfl⟩
    obtain ⟨_, i, t⟩ := (tiL_mem hs h0m).mp hp
    rcases far_at hs hr t with ⟨z1, z2⟩ | ⟨z1, z2⟩
    · exact ⟨by rw [z2]; exact knL_iff.mpr t.1, fun y => z1 (by rw [← z2, y])⟩
    · exact ⟨by rw [z2]; exact knL_iff.mpr t.2.1, fun y => z1 (by rw [← z2, y])⟩
  · rintro ⟨hk, hne⟩
    have hk := knL_iff.mp hk
    obtain ⟨i, hi, hd, kf⟩ := step_to hs hk hr hne
    have t := tie_fl hk hi kf
    have fi : aT (fl S n k i) i = aT r i := by
      rw [fl_at hi, if_pos (SpE.refl _ _)]
      exact (ny_tn (aT_ny hk.1 hi) (aT_ny hr.1 hi) hd).symm
    rcases tie_le t with z | z
    · refine ⟨(k, fl S n k i), (tiL_mem hs h0m).mpr ⟨z, i, t⟩, ?_⟩
      rcases far_at hs hr t with ⟨_, y⟩ | ⟨y, _⟩
      · exact y
      · exact absurd fi y
    · refine ⟨(fl S n k i, k), (tiL_mem hs h0m).mpr ⟨z, i, t.symm⟩, ?_⟩
      rcases far_at hs hr t.symm with ⟨y, _⟩ | ⟨_, y⟩
      · exact absurd fi y
      · exact y
theorem tiL_len (hs : HS S n) (h0m : h0 ∈ S) : (tiL S h0 (knL S n)).length + 1 = (knL S n).length := by
  have hr := kn_of hs h0m
  have nd1 : ((tiL S h0 (knL S n)).map (farK h0)).Nodup := List.pairwise_map.mpr ((List.Pairwise.imp_of_mem (fun {p q} hp hq h e => h (far_inj hs h0m hr hp hq e)) (tiL_nodup S h0 (knL_pw S n))))
  have nd2 : ((knL S n).filter fun x => decide (x ≠ h0)).Nodup := (knL_nodup S n).filter _
  have e := ((List.perm_ext_iff_of_nodup nd1 nd2).mpr fun k => far_mem hs h0m hr).length_eq
  rw [List.length_map] at e
  rw [e]
  have g : ∀ l : List (List Nat), l.Nodup → h0 ∈ l → (l.filter fun x => decide (x ≠ h0)).length + 1 = l.length := by
    intro l
    induction l with
    | nil => intro _ h; cases h
    | cons a l ih =>
      intro hd hm
      obtain ⟨h1, h2⟩ := List.nodup_cons.mp hd
      rw [List.filter_cons, List.length_cons]
      by_cases ea : a = h0
      · subst ea
        rw [if_neg (by simp), List.filter_eq_self.mpr (fun x hx => by simp; intro z; exact h1 (z ▸ hx))]
      · rw [if_pos (decide_eq_true ea), List.length_cons, ih h2 ((List.mem_cons.mp hm).resolve_left fun z => ea z.symm)]
  exact g _ (knL_nodup S n) (knL_iff.mpr hr)
/-- each place at which the told ones aren't all alike, once -/
theorem used_perm (hs : HS S n) (h0m : h0 ∈ S) : ((tiL S h0 (knL S n)).flatMap fun p => unl p.1 p.2).Perm ((List.range n).filter fun i => S.any fun h => decide (aT h i ≠ aT h0 i)) := by
  refine (List.perm_ext_iff_of_nodup ?_ (List.nodup_range.filter _)).mpr fun i => ?_
  · refine List.pairwise_flatMap.mpr ⟨fun p _ => List.nodup_range.filter _, List.Pairwise.imp_of_mem (fun {p q} hp hq h x hx y hy e => ?_) (tiL_nodup S h0 (knL_pw S n))⟩
    subst e
    obtain ⟨l1, i, t1⟩ := (tiL_mem hs h0m).mp hp
    obtain ⟨l2, j, t2⟩ := (tiL_mem hs h0m).mp hq
    obtain ⟨hx1, hx2⟩ := (unl_mem t1.1.1.1).mp hx
    obtain ⟨_, hy2⟩ := (unl_mem t2.1.1.1).mp hy
    have u1 := t1.at_ hx1 ((t1.2.2.2 x hx1).mp hx2)
    have u2 := t2.at_ hx1 ((t2.2.2.2 x hx1).mp hy2)
    obtain ⟨p1, p2⟩ := p
    obtain ⟨q1, q2⟩ := q
    by_cases c : aT p1 x = aT q1 x
    · obtain ⟨e1, e2⟩ := tie_uniq hs u1 u2 c
      exact h (by rw [show p1 = q1 from e1, show p2 = q2 from e2])
    · have c' : aT p1 x = aT q2 x := by
        have a1 := ny_tn (aT_ny u2.1.1 hx1) (aT_ny u1.1.1 hx1) (Ne.symm c)
        have a2 := ny_tn (aT_ny u2.1.1 hx1) (aT_ny u2.2.1.1 hx1) u2.ne
        exact a1.trans a2.symm
      obtain ⟨e1, e2⟩ := tie_uniq hs u1 u2.symm c'
      have e1 : p1 = q2 := e1
      have e2 : p2 = q1 := e2
      have l1 : p1 < p2 := l1
      have l2 : q1 < q2 := l2
      rw [e1, e2] at l1
      exact List.lt_irrefl _ (List.lt_trans l1 l2)
  · rw [List.mem_flatMap, List.mem_filter, List.mem_range, List.any_eq_true]
    constructor
    · rintro ⟨p, hp, hi⟩
      obtain ⟨_, j, t⟩ := (tiL_mem hs h0m).mp hp
      obtain ⟨hin, hid⟩ := (unl_mem t.1.1.1).mp hi
      refine ⟨hin, ?_⟩
      obtain ⟨x, hx, y, hy, hne⟩ := nc_of t.1 t.2.1 hin hid
      by_cases c : aT x i = aT h0 i
      · exact ⟨y, hy, decide_eq_true fun z => hne (c.trans z.symm)⟩
      · exact ⟨x, hx, decide_eq_true c⟩
    · rintro ⟨hin, x, hx, e⟩
      obtain ⟨a, b, t⟩ := tie_at hs hin ⟨x, hx, h0, h0m, of_decide_eq_true e⟩
      rcases tie_le t with z | z
      · exact ⟨(a, b), (tiL_mem hs h0m).mpr ⟨z, i, t⟩, (unl_mem t.1.1.1).mpr ⟨hin, t.ne⟩⟩
      · exact ⟨(b, a), (tiL_mem hs h0m).mpr ⟨z, i, t.symm⟩, (unl_mem t.2.1.1.1).mpr ⟨hin, Ne.symm t.ne⟩⟩
theorem three_le (hs : HS S n) (h0m : h0 ∈ S) {k : List Nat} (hk : Kn S n k) (hno : k ∉ S) : 3 ≤ ((tiL S h0 (knL S n)).filter fun p => decide (k = p.1 ∨ k = p.2)).length := by
  obtain ⟨i, j, l, ⟨hi, hj, hl⟩, ⟨ki, kj, kl⟩, nij, nil, njl⟩ := three_ties hs hk hno
  have mk : ∀ i, i < n → Kn S n (fl S n k i) → ∃ p ∈ (tiL S h0 (knL S n)).filter (fun p => decide (k = p.1 ∨ k = p.2)), i ∈ unl p.1 p.2 ∧ ∀ j, j < n → j ∈ unl p.1 p.2 → SpE S i j := fun i hi kf => by
    have t := tie_fl hk hi kf
    rcases tie_le t with z | z
    · exact ⟨(k, fl S n k i), List.mem_filter.mpr ⟨(tiL_mem hs h0m).mpr ⟨z, i, t⟩, decide_eq_true (.inl rfl)⟩, (unl_mem hk.1.1).mpr ⟨hi, t.ne⟩, fun j hj h => (t.2.2.2 j hj).mp ((unl_mem hk.1.1).mp h).2⟩
    · exact ⟨(fl S n k i, k), List.mem_filter.mpr ⟨(tiL_mem hs h0m).mpr ⟨z, i, t.symm⟩, decide_eq_true (.inr rfl)⟩, (unl_mem kf.1.1).mpr ⟨hi, Ne.symm t.ne⟩, fun j hj h => (t.2.2.2 j hj).mp (Ne.symm ((unl_mem kf.1.1).mp h).2)⟩
  obtain ⟨p, hp, p1, p2⟩ := mk i hi ki
  obtain ⟨q, hq, q1, q2⟩ := mk j hj kj
  obtain ⟨r, hr, r1, r2⟩ := mk l hl kl
  have npq : p ≠ q := fun e => nij (p2 j hj (e ▸ q1))
  have npr : p ≠ r := fun e => nil (p2 l hl (e ▸ r1))
  have nqr : q ≠ r := fun e => njl (q2 l hl (e ▸ r1))
  have hd : [p, q, r].Nodup := by simp [npq, npr, nqr]
  have hsub : ∀ x ∈ [p, q, r], x ∈ (tiL S h0 (knL S n)).filter fun p => decide (k = p.1 ∨ k = p.2) := fun x hx => by
    simp only [List.mem_cons, List.not_mem_nil, or_false] at hx
    rcases hx with rfl | rfl | rfl <;> assumption
  exact nd_len hd hsub
end
end Hid

namespace Hid
open PySem PySem.Spec PyProof.Rows L2
/-! the greater, the lesser of two texts -/
theorem two_at {a b : Str} {t u : Tok} : ∀ (i : Nat) (v : Value), (#[Value.str a t, .str b u] : Array Value)[i]? = some v → ∃ t', v = .str (if i = 0 then a else b) t'
  | 0, v, h => ⟨t, by simpa using h.symm⟩
  | 1, v, h => ⟨u, by simpa using h.symm⟩
  | n + 2, v, h => by simp at h
section
variable {prog : Program} {w : World} {A : Around} {E : Value → Shared → Prop} {s : Shared}
theorem far {h : Heap} {c : Addr} {o : Obj} (e : h.get? c = some o) (z : c = h.objs.size + 1) : False := by
  have q := Heap.lt_size e
  rw [z] at q
  exact Nat.lt_irrefl _ (Nat.lt_of_succ_lt q)
theorem strs_gt {P : Nat → Value → Prop} (val : Nat → Str) (hval : ∀ i v, P i v → ∃ t, v = .str (val i) t) : CmpOf prog w A .Gt P (fun i j => decide ((val j).cps.toList < (val i).cps.toList)) := fun i j vi vj s Q E hi hj h => by
  obtain ⟨t, rfl⟩ := hval i vi hi; obtain ⟨u, rfl⟩ := hval j vj hj
  exact PySem.P.gt_str h
theorem strs_lt {P : Nat → Value → Prop} (val : Nat → Str) (hval : ∀ i v, P i v → ∃ t, v = .str (val i) t) : CmpOf prog w A .Lt P (fun i j => decide ((val i).cps.toList < (val j).cps.toList)) := fun i j vi vj s Q E hi hj h => by
  obtain ⟨t, rfl⟩ := hval i vi hi; obtain ⟨u, rfl⟩ := hval j vj hj
  exact lt_str h
theorem max2S {a b : Str} {t u : Tok} {Q : Value → Shared → Prop} (hh : A.handled = none) (h : ∀ h' tk, (∀ c o, s.heap.get? c = some o → h'.get? c = some o) → Q (if a.cps.toList < b.cps.toList then .str b u else .str a t) { s with heap := h', toks := tk }) :
    wpAny (model prog w) A (call (.builtin "max") [.str a t, .str b u]) Q E s := by
  have hT : (s.heap.push { cls := .type "tuple", data := .seq #[.str a t, .str b u] }).IsTuple s.heap.objs.size #[.str a t, .str b u] := ⟨_, Heap.get?_push_size _ rfl, rfl, 0, rfl⟩
  have hsz : (s.heap.push { cls := .type "tuple", data := .seq #[.str a t, .str b u] }).objs.size = s.heap.objs.size + 1 := Heap.size_push ..
  refine call_max_two (wpAny_pyIter_tuple hT ⟨_, [_, s.heap.objs.size], [_], _, _, _, _, rfl, Walks.tuple (A := A.in1) hh _ s.heap.objs.size (by rw [hsz]; exact Nat.ne_of_lt (Nat.lt_succ_self _)) #[.str a t, .str b u], ⟨⟨_, Heap.get?_push_size _ rfl, rfl, rfl⟩, hT.push _⟩, fun c hc => ?_, (by show 0 < 2; decide), strs_gt (fun i => if i = 0 then a else b) two_at, fun v h' tk hP hk => ?_⟩)
  · show c < ((s.heap.push _).push _).objs.size
    rw [Heap.size_push, hsz]
    have hc' : c = s.heap.objs.size + 1 ∨ c = s.heap.objs.size := by simpa [hsz] using hc
    rcases hc' with z | z <;> rw [z]
    · exact Nat.lt_succ_self _
    · exact Nat.lt_succ_of_lt (Nat.lt_succ_self _)
  · have hold : ∀ c o, s.heap.get? c = some o → h'.get? c = some o := fun c o e => hk c o (fun hm => far e (by simpa [hsz] using hm)) (Heap.get?_push_of_some _ (Heap.get?_push_of_some _ e))
    have hq := h h' tk hold
    have hP' : (#[Value.str a t, .str b u] : Array Value)[argBest (fun i j => decide ((if j = 0 then a else b).cps.toList < (if i = 0 then a else b).cps.toList)) 1]? = some v := hP
    by_cases hba : a.cps.toList < b.cps.toList
    · rw [if_pos hba] at hq
      have e : v = .str b u := by simpa [argBest, hba] using hP'.symm
      rw [e]; exact hq
    · rw [if_neg hba] at hq
      have e : v = .str a t := by simpa [argBest, hba] using hP'.symm
      rw [e]; exact hq
theorem min2S {a b : Str} {t u : Tok} {Q : Value → Shared → Prop} (hh : A.handled = none) (h : ∀ h' tk, (∀ c o, s.heap.get? c = some o → h'.get? c = some o) → Q (if b.cps.toList < a.cps.toList then .str b u else .str a t) { s with heap := h', toks := tk }) :
    wpAny (model prog w) A (call (.builtin "min") [.str a t, .str b u]) Q E s := by
  have hT : (s.heap.push { cls := .type "tuple", data := .seq #[.str a t, .str b u] }).IsTuple s.heap.objs.size #[.str a t, .str b u] := ⟨_, Heap.get?_push_size _ rfl, rfl, 0, rfl⟩
  have hsz : (s.heap.push { cls := .type "tuple", data := .seq #[.str a t, .str b u] }).objs.size = s.heap.objs.size + 1 := Heap.size_push ..
  refine call_min_two (wpAny_pyIter_tuple hT ⟨_, [_, s.heap.objs.size], [_], _, _, _, _, rfl, Walks.tuple (A := A.in1) hh _ s.heap.objs.size (by rw [hsz]; exact Nat.ne_of_lt (Nat.lt_succ_self _)) #[.str a t, .str b u], ⟨⟨_, Heap.get?_push_size _ rfl, rfl, rfl⟩, hT.push _⟩, fun c hc => ?_, (by show 0 < 2; decide), strs_lt (fun i => if i = 0 then a else b) two_at, fun v h' tk hP hk => ?_⟩)
  · show c < ((s.heap.push _).push _).objs.size
    rw [Heap.size_push, hsz]
    have hc' : c = s.heap.objs.size + 1 ∨ c = s.heap.objs.size := by simpa [hsz] using hc
    rcases hc' with z | z <;> rw [z]
    · exact Nat.lt_succ_self _
    · exact Nat.lt_succ_of_lt (Nat.lt_succ_self _)
  · have hold : ∀ c o, s.heap.get? c = some o → h'.get? c = some o := fun c o e => hk c o (fun hm => far e (by simpa [hsz] using hm)) (Heap.get?_push_of_some _ (Heap.get?_push_of_some _ e))
    have hq := h h' tk hold
    have hP' : (#[Value.str a t, .str b u] : Array Value)[argBest (fun i j => decide ((if i = 0 then a else b).cps.toList < (if j = 0 then a else b).cps.toList)) 1]? = some v := hP
    by_cases hba : b.cps.toList < a.cps.toList
    · rw [if_pos hba] at hq
      have e : v = .str b u := by simpa [argBest, hba] using hP'.symm
      rw [e]; exact hq
    · rw [if_neg hba] at hq
      have e : v = .str a t := by simpa [argBest, hba] using hP'.symm
      rw [e]; exact hq
end
section
variable {X : Cx}
def rMaxS : List V → Hp → VK → Prop := fun xs H Q => ∃ a b, xs = [.str a, .str b] ∧ Q (.str (if a.cps.toList < b.cps.toList then b else a)) H
def rMinS : List V → Hp → VK → Prop := fun xs H Q => ∃ a b, xs = [.str a, .str b] ∧ Q (.str (if b.cps.toList < a.cps.toList then b else a)) H
theorem call_max2S (hc : X.calm = true) : CallR X (.builtin "max") rMaxS := by
  intro pins s σ H xs us Q I r h
  obtain ⟨a, b, rfl, q⟩ := h
  obtain ⟨u, w', rfl, ⟨t, rfl⟩, ⟨t', rfl⟩⟩ := vals2 r
  refine max2S (I.ok.hd hc) fun h' tk k => ⟨_, H, I.kept k, ?_, q⟩
  split <;> exact ⟨_, rfl⟩
theorem call_min2S (hc : X.calm = true) : CallR X (.builtin "min") rMinS := by
  intro pins s σ H xs us Q I r h
  obtain ⟨a, b, rfl, q⟩ := h
  obtain ⟨u, w', rfl, ⟨t, rfl⟩, ⟨t', rfl⟩⟩ := vals2 r
  refine min2S (I.ok.hd hc) fun h' tk k => ⟨_, H, I.kept k, ?_, q⟩
  split <;> exact ⟨_, rfl⟩
/-! a pair of texts in a list of such -/
def pT (p : List Nat × List Nat) : List V := [.str (tx p.1), .str (tx p.2)]
def rInP (K : PySem.W.Frag) (neg : Bool) : R2 := fun x y H Q => ∃ (p t0 : Addr) (vs : List V) (ps : List (List Nat × List Nat)) (p0 : List Nat × List Nat), x = .ref t0 ∧ y = .ref p ∧ H t0 = some (.tup (pT p0)) ∧ SqL K H p vs ∧ Prs K H vs ps ∧ Q (.bl (if neg then !decide (p0 ∈ ps) else decide (p0 ∈ ps))) H
noncomputable def eP (H : Hp) (p0 : List Nat × List Nat) (u : Value) : Bool := match u with
  | .ref t => @decide (H t = some (.tup (pT p0))) (Classical.propDecidable _)
  | _ => false
theorem pT_inj {p q : List Nat × List Nat} (h : pT p = pT q) : p = q := by
  unfold pT at h
  injection h with h1 h2
  injection h2 with h2 _
  exact Prod.ext (tx_inj (V.str.inj h1)) (tx_inj (V.str.inj h2))
theorem eP_ref {H : Hp} {p p0 : List Nat × List Nat} {t : Addr} (c : H t = some (.tup (pT p))) : eP H p0 (.ref t) = decide (p = p0) := by
  show @decide (H t = some (.tup (pT p0))) (Classical.propDecidable _) = _
  by_cases h : p = p0
  · rw [decide_eq_true h]
    exact @decide_eq_true _ (Classical.propDecidable _) (by rw [c, h])
  · rw [decide_eq_false h]
    refine @decide_eq_false _ (Classical.propDecidable _) fun z => ?_
    rw [c] at z
    injection z with z
    injection z with z
    exact h (pT_inj z)
theorem any_eP {K : PySem.W.Frag} {H : Hp} {p0 : List Nat × List Nat} : ∀ {vs : List V} {its : List Value} {ps : List (List Nat × List Nat)}, Vals vs its → Prs K H vs ps → its.any (eP H p0) = decide (p0 ∈ ps)
  | _, _, _, .nil, .nil => by simp
  | _, _, _, .cons r rs, .cons (b := p) ⟨t, ht, c⟩ ps => by
    subst ht
    cases r
    rw [List.any_cons, any_eP rs ps]
    rw [eP_ref (p := p) c]
    by_cases h : p = p0
    · simp [h]
    · have h' : ¬ p0 = p := fun z => h z.symm
      simp [h, h']
theorem each_eP {pins : List (Addr × Obj)} {s : Shared} {σ : L2.St} {H : Hp} (I : Inv X pins σ H s) (hu : X.A.units + 64 < cLine) {t0 : Addr} {p0 : List Nat × List Nat} (h0 : H t0 = some (.tup (pT p0))) : ∀ {vs : List V} {its : List Value} {ps : List (List Nat × List Nat)}, Vals vs its → Prs X.K H vs ps → ∀ u ∈ its, SeqAt.EqAt X.A.in1 s u (.ref t0) (eP H p0 u)
  | _, _, _, .nil, .nil => fun u hu => by cases hu
  | _, _, _, .cons r rs, .cons (b := p) q ps => fun u' hu' => by
    rcases List.mem_cons.mp hu' with z | z
    · subst z
      obtain ⟨t, ht, c⟩ := id q
      subst ht
      cases r
      obtain ⟨as, r1⟩ := Dp.reads I (dSS p) _ _ q.dp rfl
      obtain ⟨bs, r2⟩ := Dp.reads I (dSS p0) (.ref t0) (.ref t0) (PrT.dp (p := p0) ⟨t0, rfl, h0⟩) rfl
      have key := PySem.W.eqAt_alike (dSS p) (dSS p0) X.A.in1 s _ _ as bs r1 r2 (by simp [dSS, PySem.W.alike, PySem.W.alikeAll]) (by
        have : (dSS p).depth ≤ 8 := by simp [dSS, PyData.depth, PyData.depthAll]
        show X.A.units + 1 + min (dSS p).depth (dSS p0).depth < cLine
        omega)
      have e : PyData.eqv (dSS p) (dSS p0) = eP H p0 (.ref t) := by
        rw [eP_ref (p := p) c]
        by_cases h : p = p0
        · subst h
          rw [PySem.W.eqv_refl_alike _ (by simp [dSS, PySem.W.alike, PySem.W.alikeAll]), decide_eq_true rfl]
        · rw [decide_eq_false h]
          have : ¬ (tx p.1 = tx p0.1 ∧ tx p.2 = tx p0.2) := fun ⟨a, b⟩ => h (Prod.ext (tx_inj a) (tx_inj b))
          simpa [dSS, PyData.eqv, PyData.eqvAll] using this
      rw [← e]
      exact key
    · exact each_eP I hu h0 rs ps u' z
theorem op_niP (hu : X.A.units + 64 < cLine) : OpR X (compareOp .NotIn) (rInP X.K true) := by
  intro pins s σ H x y v u Q I rx ry h
  obtain ⟨p, t0, vs, ps, p0, rfl, rfl, h0, hq, hp, q⟩ := h
  cases ry; cases rx
  obtain ⟨its, r, pl, hz⟩ := I.list hq
  refine SeqAt.notIn_listAt (eP H p0) pl.isList (fun w hw => each_eP I hu h0 r hp w (by simpa using hw)) ⟨.bl _, H, I, rfl, ?_⟩
  rw [show its.toArray.any (eP H p0) = its.any (eP H p0) by simp, any_eP r hp]; exact q
theorem op_inP (hu : X.A.units + 64 < cLine) : OpR X (compareOp .In) (rInP X.K false) := by
  intro pins s σ H x y v u Q I rx ry h
  obtain ⟨p, t0, vs, ps, p0, rfl, rfl, h0, hq, hp, q⟩ := h
  cases ry; cases rx
  obtain ⟨its, r, pl, hz⟩ := I.list hq
  refine SeqAt.in_listAt (eP H p0) pl.isList (fun w hw => each_eP I hu h0 r hp w (by simpa using hw)) ⟨.bl _, H, I, rfl, ?_⟩
  rw [show its.toArray.any (eP H p0) = its.any (eP H p0) by simp, any_eP r hp]; exact q
/-! sorted of a list of texts, of any length -/
def rSortLS (K : PySem.W.Frag) : List V → Hp → VK → Prop := fun vs H Q => ∃ (a : Addr) (xs : List Str), vs = [.ref a] ∧ SqL K H a (xs.map V.str) ∧ ∀ p, H p = none → Q (.ref p) (upd H p (.lst ((srt xs).map V.str)))
theorem paired_strs : ∀ xs : List Str, Paired (fun (v : V) (z : Str) => v = .str z) (xs.map V.str) xs
  | [] => .nil
  | x :: xs => .cons rfl (paired_strs xs)
theorem paired_strs' : ∀ {ys : List V} {xs : List Str}, Paired (fun (v : V) (z : Str) => v = .str z) ys xs → ys = xs.map V.str
  | _, _, .nil => rfl
  | _, _, .cons e t => by rw [paired_strs' t, e]; rfl
theorem cr_sortLS (hu : X.A.units + 64 < cLine) : CallR X (.builtin "sorted") (rSortLS X.K) := by
  intro pins s σ H vs us Q I r h
  obtain ⟨a, xs, rfl, hs, q⟩ := h
  refine cr_sortD (enc := fun k : Str => PyData.str k) hu pins s σ H _ us Q I r ⟨a, _, xs, fun v z => v = .str z, rfl, hs, paired_strs xs, fun v b e => by rw [e]; exact .str _, PySem.W.AllAlike.of fun _ _ => by simp [PySem.W.alike], PySem.W.Sortable.others fun _ => ⟨by simp, by simp⟩, fun b _ => by simp [PyData.depth], fun ys p hp hn => ?_⟩
  rw [PySem.W.dataLe_str (β := Str) (fun k => k)] at hp
  rw [paired_strs' hp]
  exact q p hn
end
end Hid

namespace Hid
open PySem PySem.Spec PyProof.Rows L2 Evl
/-! families: what a thing is, as far as it is looked at -/
def NotU (K : PySem.W.Frag) (H : Hp) (v : V) : Prop := ∃ t, kitB t "tuple" = some false ∧ ∀ H1, Ex H H1 → TyX K H1 v (.type t)
section
variable {K : PySem.W.Frag} {H H' : Hp} {v : V}
theorem NotU.ex (h : NotU K H v) (e : Ex H H') : NotU K H' v := let ⟨t, a, b⟩ := h; ⟨t, a, fun H1 e1 => b H1 (e.trans e1)⟩
theorem nu_non : NotU K H .non := ⟨"NoneType", by decide +kernel, fun _ _ => .base .non⟩
theorem nu_str (x : Str) : NotU K H (.str x) := ⟨"str", by decide +kernel, fun _ _ => .base (.str x)⟩
theorem nu_lst {a : Addr} {xs : List V} (h : H a = some (.lst xs)) : NotU K H (.ref a) := ⟨"list", by decide +kernel, fun _ e => .base (.lst (e _ _ h))⟩
theorem nu_dict {a : Addr} {xs : List (Key × V)} (h : H a = some (.dK xs)) : NotU K H (.ref a) := ⟨"dict", by decide +kernel, fun _ e => .base (.dK (e _ _ h))⟩
end
abbrev nby : List Nat := [110, 98, 121]
def rowO (o : Option (List Nat)) (n : Nat) : Bool := wr o nby && (match o with | none => false | some z => decide (z.length = n))
inductive Fm where
  | non
  | len (n : Nat)
  | three (x y : Option (List Nat)) (z : Option (List (Option (List Nat))))
def YgOk (K : PySem.W.Frag) (H : Hp) (v : V) : Option (List (Option (List Nat))) → Prop
  | none => NotU K H v
  | some os => ∃ b vs, v = .ref b ∧ H b = some (.tup vs) ∧ Paired (Th K H) vs os
def FmOk (K : PySem.W.Frag) (H : Hp) (v : V) : Fm → Prop
  | .non => NotU K H v
  | .len n => n ≠ 3 ∧ ∃ a xs, v = .ref a ∧ H a = some (.tup xs) ∧ xs.length = n
  | .three ox oy oz => ∃ a x y z, v = .ref a ∧ H a = some (.tup [x, y, z]) ∧ Th K H x ox ∧ Th K H y oy ∧ YgOk K H z oz
def famB : Fm → Bool
  | .three (some z) oy (some os) => wr (some z) nby && (rowO oy z.length && (decide (1 ≤ os.length ∧ os.length ≤ 3) && os.all fun o => rowO o z.length))
  | _ => false
section
variable {K : PySem.W.Frag} {H H' : Hp} {v : V}
theorem YgOk.ex : ∀ {o : Option (List (Option (List Nat)))}, YgOk K H v o → Ex H H' → YgOk K H' v o
  | none, h, e => NotU.ex h e
  | some os, h, e => let ⟨b, vs, a, c, d⟩ := h; ⟨b, vs, a, e _ _ c, paired_mono (fun _ _ q => q.ex e) d⟩
theorem FmOk.ex : ∀ {f : Fm}, FmOk K H v f → Ex H H' → FmOk K H' v f
  | .non, h, e => NotU.ex h e
  | .len n, h, e => let ⟨h0, a, xs, h1, h2, h3⟩ := h; ⟨h0, a, xs, h1, e _ _ h2, h3⟩
  | .three ox oy oz, h, e => let ⟨a, x, y, z, h1, h2, h3, h4, h5⟩ := h; ⟨a, x, y, z, h1, e _ _ h2, h3.ex e, h4.ex e, h5.ex e⟩
end
theorem rowO_none (n : Nat) : rowO none n = false := rfl
theorem rowO_len {z : List Nat} {n : Nat} (h : z.length ≠ n) : rowO (some z) n = false := by
  unfold rowO
  show (_ && decide (z.length = n)) = false
  rw [decide_eq_false h, Bool.and_false]
theorem rowO_wr {o : Option (List Nat)} {n : Nat} (h : wr o nby = false) : rowO o n = false := by unfold rowO; rw [h, Bool.false_and]
theorem rowO_row {r : List Nat} (h : RowL r) : rowO (some r) r.length = true := by
  unfold rowO
  rw [row_wr h]
  show (true && decide (r.length = r.length)) = true
  rw [decide_eq_true rfl]
  rfl
theorem bad_x {ox oy : Option (List Nat)} {oz : Option (List (Option (List Nat)))} (h : wr ox nby = false) : famB (.three ox oy oz) = false := by
  cases ox with
  | none => rfl
  | some z =>
    cases oz with
    | none => rfl
    | some os =>
      show (wr (some z) nby && _) = false
      rw [h, Bool.false_and]
theorem bad_y {z : List Nat} {oy : Option (List Nat)} {oz : Option (List (Option (List Nat)))} (h : rowO oy z.length = false) : famB (.three (some z) oy oz) = false := by
  cases oz with
  | none => rfl
  | some os =>
    show (_ && (rowO oy z.length && _)) = false
    rw [h, Bool.false_and, Bool.and_false]
theorem bad_z {ox oy : Option (List Nat)} : famB (.three ox oy none) = false := by cases ox <;> rfl
theorem bad_l {ox oy : Option (List Nat)} {os : List (Option (List Nat))} (h : ¬ (1 ≤ os.length ∧ os.length ≤ 3)) : famB (.three ox oy (some os)) = false := by
  cases ox with
  | none => rfl
  | some z =>
    show (_ && (_ && (decide (1 ≤ os.length ∧ os.length ≤ 3) && _))) = false
    rw [decide_eq_false h, Bool.false_and, Bool.and_false, Bool.and_false]
theorem bad_o {z : List Nat} {oy o : Option (List Nat)} {os : List (Option (List Nat))} (ho : o ∈ os) (h : rowO o z.length = false) : famB (.three (some z) oy (some os)) = false := by
  show (_ && (_ && (_ && os.all fun o => rowO o z.length))) = false
  have : (os.all fun o => rowO o z.length) = false := by
    rw [Bool.eq_false_iff]
    intro hall
    have := List.all_eq_true.mp hall o ho
    rw [h] at this
    cases this
  rw [this, Bool.and_false, Bool.and_false, Bool.and_false]
theorem fam_good {r1 r2 : List Nat} {ys : List (List Nat)} (h1 : RowL r1) (h2 : RowL r2) (hl : r2.length = r1.length) (hn : 1 ≤ ys.length ∧ ys.length ≤ 3) (hy : ∀ y ∈ ys, RowL y ∧ y.length = r1.length) : famB (.three (some r1) (some r2) (some (ys.map some))) = true := by
  show (wr (some r1) nby && (rowO (some r2) r1.length && (decide (1 ≤ (ys.map some).length ∧ (ys.map some).length ≤ 3) && (ys.map some).all fun o => rowO o r1.length))) = true
  have h3 := rowO_row h2
  rw [hl] at h3
  have h4 : ((ys.map some).all fun o => rowO o r1.length) = true := List.all_eq_true.mpr fun o ho => by
    obtain ⟨y, hm, rfl⟩ := List.mem_map.mp ho
    obtain ⟨a, b⟩ := hy y hm
    rw [← b]
    exact rowO_row a
  rw [row_wr h1, h3, h4, List.length_map, decide_eq_true hn]
  rfl
/-! what is no family -/
def Bad (K : PySem.W.Frag) (v : V) (H : Hp) : Prop := ∃ f, FmOk K H v f ∧ famB f = false
theorem Bad.ex {K : PySem.W.Frag} {H H' : Hp} {v : V} (h : Bad K v H) (e : Ex H H') : Bad K v H' := let ⟨f, a, b⟩ := h; ⟨f, a.ex e, b⟩
def Bads (K : PySem.W.Frag) (n : Nat) (vs : List V) (H : Hp) : Prop := vs.length = n ∧ ∀ v ∈ vs, Bad K v H
theorem Bads.ex {K : PySem.W.Frag} {H H' : Hp} {n : Nat} {vs : List V} (h : Bads K n vs H) (e : Ex H H') : Bads K n vs H' := ⟨h.1, fun v hv => (h.2 v hv).ex e⟩
theorem Bads.app {K : PySem.W.Frag} {H : Hp} {m n : Nat} {vs ws : List V} (h : Bads K m vs H) (h' : Bads K n ws H) : Bads K (m + n) (vs ++ ws) H := ⟨by rw [List.length_append, h.1, h'.1], fun v hv => by
  rcases List.mem_append.mp hv with z | z
  · exact h.2 v z
  · exact h'.2 v z⟩
section
variable {K : PySem.W.Frag} {σ : L2.St} {H H' : Hp} {ta tb tc te : TE} {ts : TA} {D : Ends} {tz : TS}
abbrev EvX (K : PySem.W.Frag) (te : TE) (σ : L2.St) (H : Hp) (o : Option (List Nat)) : Prop := EvP te σ H fun v H => Th K H v o
abbrev EvY (K : PySem.W.Frag) (te : TE) (σ : L2.St) (H : Hp) (o : Option (List (Option (List Nat)))) : Prop := EvP te σ H fun v H => YgOk K H v o
theorem ep_ev {v : V} {P : V → Hp → Prop} (h : Ev te σ H v) (hp : ∀ H1, Ex H H1 → P v H1) : EvP te σ H P := fun H1 e Q q => h H1 e _ fun H2 e2 => q _ H2 e2 (hp H2 (e.trans e2))
theorem ep_mono {P : V → Hp → Prop} (h : EvP te σ H P) (e : Ex H H') : EvP te σ H' P := fun H1 e1 Q q => h H1 (e.trans e1) Q q
theorem ex_ev {v : V} {o : Option (List Nat)} (h : Ev te σ H v) (hp : Th K H v o) : EvX K te σ H o := ep_ev h fun _ e => hp.ex e
theorem ey_ev {v : V} {o : Option (List (Option (List Nat)))} (h : Ev te σ H v) (hp : YgOk K H v o) : EvY K te σ H o := ep_ev h fun _ e => hp.ex e
theorem bad3 {ox oy : Option (List Nat)} {oz : Option (List (Option (List Nat)))} (h1 : EvX K ta σ H ox) (h2 : EvX K tb σ H oy) (h3 : EvY K tc σ H oz) (hb : famB (.three ox oy oz) = false) : EvP (tTup (tCons ta (tCons tb (tCons tc tNil)))) σ H (Bad K) := fun H1 e Q q =>
  h1 H1 e _ fun x H2 e2 hx => h2 H2 (e.trans e2) _ fun y H3 e3 hy => h3 H3 ((e.trans e2).trans e3) _ fun z H4 e4 hz => ⟨by show 3 ≤ sizeLine; decide, fun p hp => q _ _ ((e2.trans (e3.trans e4)).trans (Ex.new hp)) ⟨.three ox oy oz, ⟨p, x, y, z, rfl, upd_same, hx.ex ((e3.trans e4).trans (Ex.new hp)), hy.ex (e4.trans (Ex.new hp)), hz.ex (Ex.new hp)⟩, hb⟩⟩
/-- so many of any kind -/
def Any (n : Nat) (vs : List V) (_ : Hp) : Prop := vs.length = n
theorem an_nil : EvPs tNil σ H (Any 0) := fun H1 _ Q q => q [] H1 (Ex.refl _) rfl
theorem an_cons {P : V → Hp → Prop} {n : Nat} (h : EvP ta σ H P) (hr : EvPs ts σ H (Any n)) : EvPs (tCons ta ts) σ H (Any (n + 1)) := fun H1 e Q q =>
  h H1 e _ fun v H2 e2 _ => hr H2 (e.trans e2) _ fun vs H3 e3 hv => q _ H3 (e2.trans e3) (congrArg Nat.succ hv)
theorem badN {n : Nat} (h : EvPs ts σ H (Any n)) (hn : n ≠ 3) (hl : n ≤ 100000) : EvP (tTup ts) σ H (Bad K) := fun H1 e Q q =>
  h H1 e _ fun vs H2 e2 hv => ⟨sz_of (by have : vs.length = n := hv; omega), fun p hp => q _ _ (e2.trans (Ex.new hp)) ⟨.len n, ⟨hn, p, vs, rfl, upd_same, hv⟩, rfl⟩⟩
theorem badL {n : Nat} (h : EvPs ts σ H (Any n)) (hl : n ≤ 100000) : EvP (tLst ts) σ H (Bad K) := fun H1 e Q q =>
  h H1 e _ fun vs H2 e2 hv => ⟨sz_of (by have : vs.length = n := hv; omega), fun p hp => q _ _ (e2.trans (Ex.new hp)) ⟨.non, nu_lst upd_same, rfl⟩⟩
theorem yg0 : EvY K (tTup tNil) σ H (some []) := fun H1 e Q q => ⟨by show 0 ≤ sizeLine; decide, fun p hp => q _ _ (Ex.new hp) ⟨p, [], rfl, upd_same, .nil⟩⟩
theorem yg1 {o : Option (List Nat)} (h : EvX K ta σ H o) : EvY K (tTup (tCons ta tNil)) σ H (some [o]) := fun H1 e Q q =>
  h H1 e _ fun x H2 e2 hx => ⟨by show 1 ≤ sizeLine; decide, fun p hp => q _ _ (e2.trans (Ex.new hp)) ⟨p, [x], rfl, upd_same, .cons (hx.ex (Ex.new hp)) .nil⟩⟩
theorem yg4 {o : Option (List Nat)} (h : EvX K ta σ H o) : EvY K (tOp (rRepT K) (tTup (tCons ta tNil)) (tC (.int 4))) σ H (some [o, o, o, o]) := fun H1 e Q q =>
  h H1 e _ fun x H2 e2 hx => ⟨by show 1 ≤ sizeLine; decide, fun p hp => ⟨p, 4, [x], rfl, rfl, st_of upd_same, by simp, by decide, by decide, by show 1 ≤ 1000; decide, fun p2 hp2 => by
    have e3 := Ex.new (o := .tup [x]) hp
    have e4 := Ex.new (o := .tup (List.replicate (4 : Int).toNat [x]).flatten) hp2
    have hx' := hx.ex (e3.trans e4)
    exact q _ _ (e2.trans (e3.trans e4)) ⟨p2, [x, x, x, x], rfl, upd_same, .cons hx' (.cons hx' (.cons hx' (.cons hx' .nil)))⟩⟩⟩
theorem ygA {a : Addr} {vs : List V} {os : List (Option (List Nat))} {o : Option (List Nat)} (ha : Ev ta σ H (.ref a)) (hs : H a = some (.tup vs)) (hp : Paired (Th K H) vs os) (h0 : vs ≠ []) (hl : vs.length ≤ 1000) (h : EvX K tb σ H o) :
    EvY K (tOp (rCatA K) ta (tTup (tCons tb tNil))) σ H (some (os ++ [o])) := fun H1 e Q q =>
  ha H1 e _ fun H2 e2 => h H2 (e.trans e2) _ fun x H3 e3 hx => ⟨by show 1 ≤ sizeLine; decide, fun p np => by
    have e4 := Ex.new (o := .tup [x]) np
    have e14 : Ex H (upd H3 p (.tup [x])) := e.trans (e2.trans (e3.trans e4))
    refine ⟨a, p, vs, [x], rfl, rfl, st_of (e14 _ _ hs), st_of upd_same, sz_of (by show vs.length + 1 ≤ 100000; omega), fun z => absurd z h0, fun _ z => by simp at z, fun _ _ p2 np2 => ?_⟩
    have e5 := Ex.new (o := .tup (vs ++ [x])) np2
    exact q _ _ ((e2.trans (e3.trans e4)).trans e5) ⟨p2, vs ++ [x], rfl, upd_same, paired_app (paired_mono (fun _ _ z => z.ex (e14.trans e5)) hp) (.cons (hx.ex (e4.trans e5)) .nil)⟩⟩
theorem bps_nil : EvPs tNil σ H (Bads K 0) := fun H1 _ Q q => q [] H1 (Ex.refl _) ⟨rfl, fun _ z => nomatch z⟩
theorem bps_cons {n : Nat} (h : EvP ta σ H (Bad K)) (hr : EvPs ts σ H (Bads K n)) : EvPs (tCons ta ts) σ H (Bads K (n + 1)) := fun H1 e Q q =>
  h H1 e _ fun v H2 e2 hv => hr H2 (e.trans e2) _ fun vs H3 e3 hvs => q _ H3 (e2.trans e3) ⟨congrArg Nat.succ hvs.1, fun x hx => by
    rcases List.mem_cons.mp hx with z | z
    · rw [z]; exact hv.ex e3
    · exact hvs.2 x z⟩
theorem q_asgBs {i n : Nat} (h : EvPs ts σ H (Bads K n)) (hn : n ≤ 1000) (k : ∀ p vs H1, H1 p = none → Ex H H1 → Bads K n vs H1 → tz D (σ.set i (some (.ref p))) (upd H1 p (.lst vs))) : tSeq (tAsg (tLst ts) (gName i)) tz D σ H :=
  h H (Ex.refl _) _ fun vs H1 e1 hv => ⟨sz_of (by have := hv.1; omega), fun p hp => k p vs H1 hp e1 hv⟩
theorem q_asgCt {i j n m : Nat} {l : Addr} {xs : List V} (hx : σ[j]? = some (some (.ref l))) (hl : H l = some (.lst xs)) (hb : Bads K m xs H) (h : EvPs ts σ H (Bads K n)) (hn : m + n ≤ 1000) (k : ∀ p vs H1, H1 p = none → Ex H H1 → Bads K (m + n) vs H1 → tz D (σ.set i (some (.ref p))) (upd H1 p (.lst vs))) :
    tSeq (tAsg (tOp rCat (tVar j) (tLst ts)) (gName i)) tz D σ H :=
  ⟨_, hx, h H (Ex.refl _) _ fun vs H1 e1 hv => ⟨sz_of (by have := hv.1; omega), fun p np => by
    have e2 := Ex.new (o := .lst vs) np
    refine ⟨l, p, xs, vs, rfl, rfl, e2 _ _ (e1 _ _ hl), upd_same, sz_of (by rw [hb.1, hv.1]; omega), fun r hr => k r _ _ hr (e1.trans e2) ((hb.ex (e1.trans e2)).app (hv.ex e2))⟩⟩⟩
end
/-- a family as it stands -/
structure FamAt (H : Hp) (t b : Addr) (n : Nat) (r1 r2 : List Nat) (ys : List (List Nat)) : Prop where
  ht : H t = some (.tup [.str (tx r1), .str (tx r2), .ref b])
  hb : H b = some (.tup (ys.map fun y => .str (tx y)))
  h1 : RowL r1
  h2 : RowL r2
  l1 : r1.length = n
  l2 : r2.length = n
  hn : 1 ≤ ys.length ∧ ys.length ≤ 3
  hy : ∀ y ∈ ys, RowL y ∧ y.length = n
theorem FamAt.ex {H H' : Hp} {t b : Addr} {n : Nat} {r1 r2 : List Nat} {ys : List (List Nat)} (h : FamAt H t b n r1 r2 ys) (e : Ex H H') : FamAt H' t b n r1 r2 ys := { h with ht := e _ _ h.ht, hb := e _ _ h.hb }
theorem rows_th {K : PySem.W.Frag} {H : Hp} : ∀ {ys : List (List Nat)}, (∀ y ∈ ys, y.length ≤ 1000) → Paired (Th K H) (ys.map fun y => V.str (tx y)) (ys.map some)
  | [], _ => .nil
  | y :: ys, h => .cons (th_str y (h y List.mem_cons_self)) (rows_th fun z hz => h z (List.mem_cons_of_mem _ hz))
theorem FamAt.fm {K : PySem.W.Frag} {H : Hp} {t b : Addr} {n : Nat} {r1 r2 : List Nat} {ys : List (List Nat)} (h : FamAt H t b n r1 r2 ys) : FmOk K H (.ref t) (.three (some r1) (some r2) (some (ys.map some))) :=
  ⟨t, _, _, _, rfl, h.ht, th_str r1 (by have := h.h1.1; omega), th_str r2 (by have := h.h2.1; omega), b, _, rfl, h.hb, rows_th fun y hy => by have := (h.hy y hy).1.1; omega⟩
theorem FamAt.good {H : Hp} {t b : Addr} {n : Nat} {r1 r2 : List Nat} {ys : List (List Nat)} (h : FamAt H t b n r1 r2 ys) : famB (.three (some r1) (some r2) (some (ys.map some))) = true :=
  fam_good h.h1 h.h2 (by rw [h.l1, h.l2]) h.hn fun y hy => ⟨(h.hy y hy).1, by rw [(h.hy y hy).2, h.l1]⟩
end Hid

namespace Hid
open PySem PySem.Spec PyProof.Rows L2 Evl
/-! books as the laws draw them -/
theorem tx_sn (a : List Nat) (c : Nat) : tx a ++ (⟨#[c]⟩ : Str) = tx (a ++ [c]) := by
  show (⟨a.toArray ++ #[c]⟩ : Str) = ⟨(a ++ [c]).toArray⟩
  simp
theorem tx_app (a b : List Nat) : tx a ++ tx b = tx (a ++ b) := by
  show (⟨a.toArray ++ b.toArray⟩ : Str) = ⟨(a ++ b).toArray⟩
  simp
theorem tx_len (a : List Nat) : (tx a).length = a.length := by simp [tx, Str.length]
theorem tx_sz (a : List Nat) : (tx a).cps.size = a.length := by simp [tx]
theorem tx_toList (a : List Nat) : (tx a).cps.toList = a := by simp [tx]
theorem cutS_take (z : List Nat) (k : Nat) (h : k ≤ z.length) : cutS (tx z) none (some (k : Int)) = tx (z.take k) := by
  unfold cutS
  rw [HT.sIx_nat, tx_len, Nat.min_eq_left h]
  show (⟨((tx z).cps.toList.drop 0 |>.take (k - 0)).toArray⟩ : Str) = _
  simp [tx]
theorem cutS_drop (z : List Nat) (k : Nat) : cutS (tx z) (some (k : Int)) none = tx (z.drop k) := by
  unfold cutS
  rw [HT.sIx_nat, tx_len]
  show (⟨((tx z).cps.toList.drop (min k z.length) |>.take (z.length - min k z.length)).toArray⟩ : Str) = _
  rw [tx_toList]
  by_cases h : k ≤ z.length
  · rw [Nat.min_eq_left h, List.take_of_length_le (by rw [List.length_drop]; exact Nat.le_refl _)] <;> rfl
  · rw [Nat.min_eq_right (by omega), Nat.sub_self, List.drop_eq_nil_of_le (by omega : z.length ≤ k)] <;> rfl
theorem cut_drop {xs : List V} (n : Nat) : cutV xs (some (n : Int)) none = xs.drop n := by
  unfold cutV
  rw [HT.sIx_nat]
  show List.take (xs.length - min n xs.length) (List.drop (min n xs.length) xs) = _
  by_cases h : n ≤ xs.length
  · rw [Nat.min_eq_left h, List.take_of_length_le (by rw [List.length_drop]; exact Nat.le_refl _)]
  · rw [Nat.min_eq_right (by omega), Nat.sub_self, List.drop_eq_nil_of_le (by omega : xs.length ≤ n)] <;> rfl
theorem mul_c (c : Nat) (n : Int) (h : 1 ≤ n) : Txt.mul (sg1 c) n = tx (List.replicate n.toNat c) := by
  unfold Txt.mul
  rw [if_neg (by omega)]
  by_cases h1 : n = 1
  · subst h1
    rfl
  · have hc : (n == 1 || (sg1 c).length == 0) = false := by
      have : (n == 1) = false := by simpa using h1
      rw [this]
      rfl
    rw [hc, if_neg Bool.false_ne_true]
    have : ∀ (k : Nat) (acc : Array Nat), (List.replicate k (sg1 c).cps).foldl (· ++ ·) acc = acc ++ (List.replicate k c).toArray := by
      intro k
      induction k with
      | zero => intro acc; simp
      | succ k ih =>
        intro acc
        rw [List.replicate_succ, List.foldl_cons, ih, List.replicate_succ]
        have : (sg1 c).cps = #[c] := rfl
        rw [this]
        exact Array.toList_inj.mp (by simp)
    rw [this]
    simp [tx]
abbrev rJoin (K : PySem.W.Frag) : V → List V → Hp → VK → Prop := fun x xs H Q => ∃ a p, ∃ ys : List Str, x = .str a ∧ xs = [.ref p] ∧ (SqL K H p (ys.map V.str) ∨ SqT K H p (ys.map V.str)) ∧ (ys.map (·.length)).sum + ys.length * a.length ≤ 16777216 ∧ Q (.str (Txt.join a ys)) H
theorem ev_join {K : PySem.W.Frag} {te : TE} {σ : L2.St} {H : Hp} {l : List Nat} (h : EvL te σ H (vs1 l)) (hl : l.length ≤ 1000000) : Ev (tM1 (rJoin K) (tC (.str (tx []))) te) σ H (.str (tx l)) := fun H1 e Q q =>
  ⟨⟨_, rfl⟩, h H1 e _ fun p H2 hp e2 h2 => r_join (K := K) (Q := Q) (sq_of h2) hl (q H2 e2)⟩
theorem erase_map {α β : Type} (f : α → β) : ∀ (l : List α) (k : Nat), (l.eraseIdx k).map f = (l.map f).eraseIdx k
  | [], _ => rfl
  | _ :: _, 0 => rfl
  | x :: l, k + 1 => by
    show f x :: (l.eraseIdx k).map f = f x :: (l.map f).eraseIdx k
    rw [erase_map f l k]
/-! names -/
def nSuf (b : Nat) : List Nat := [[], [98], [98, 97], [97, 98, 99, 100, 101, 102, 103]].getD b []
def nPre (b : Nat) : List Nat := [[], [100], [100, 100], [99, 99, 99, 99, 99, 99, 99]].getD b []
def nLet (a k : Nat) : Nat := 97 + (k + a) % 10
def nameOf (a b c k : Nat) : List Nat := if c = 1 then List.replicate (1 + k % 8) (97 + k / 8) else if c = 2 then nPre b ++ [nLet a k] else nLet a k :: nSuf b
def NameL (z : List Nat) : Prop := (1 ≤ z.length ∧ z.length ≤ 8) ∧ ∀ c ∈ z, 97 ≤ c ∧ c ≤ 122
instance (z : List Nat) : Decidable (NameL z) := by unfold NameL; infer_instance
theorem names_ok : ∀ a < 10, ∀ b < 4, ∀ c < 3, ((List.range 10).map (nameOf a b c)).Nodup ∧ ∀ k < 10, NameL (nameOf a b c k) := by decide +kernel
/-! lists of ints, of pairs, against [] -/
theorem ints_dp {K : PySem.W.Frag} {H : Hp} : ∀ ns : List Int, DpAll K H (ns.map V.int) (ns.map PyData.int)
  | [] => .nil
  | n :: ns => .cons (.int n) (ints_dp ns)
theorem shaped_ints (ns : List Int) : SeqAt.shaped (.list (ns.map PyData.int)) = true := by
  have h1 : ∀ ns : List Int, PyData.canLayAll0 (ns.map PyData.int) = true := by
    intro ns
    induction ns with
    | nil => rfl
    | cons n ns ih => show (PyData.canLay0 (.int n) && PyData.canLayAll0 (ns.map PyData.int)) = true; rw [ih]; rfl
  have h2 : ∀ ns : List Int, PyData.depthAll (ns.map PyData.int) ≤ 2 := by
    intro ns
    induction ns with
    | nil => exact Nat.zero_le _
    | cons n ns ih =>
      show max (PyData.depth (.int n)) (PyData.depthAll (ns.map PyData.int)) ≤ 2
      have : PyData.depth (.int n) ≤ 2 := by simp [PyData.depth]
      omega
  unfold SeqAt.shaped
  rw [Bool.and_eq_true]
  refine ⟨h1 ns, decide_eq_true ?_⟩
  have := h2 ns
  simp only [PyData.depth]
  omega
theorem shaped_prs (ps : List (List Nat × List Nat)) (hs : ∀ p ∈ ps, (∀ c ∈ p.1, c < 200) ∧ ∀ c ∈ p.2, c < 200) : SeqAt.shaped (.list (ps.map dSS)) = true ∧ SeqAt.shaped (.tuple (ps.map dSS)) = true := by
  have h1 : ∀ ps : List (List Nat × List Nat), (∀ p ∈ ps, (∀ c ∈ p.1, c < 200) ∧ ∀ c ∈ p.2, c < 200) → PyData.canLayAll0 (ps.map dSS) = true := by
    intro ps
    induction ps with
    | nil => intro _; rfl
    | cons p ps ih =>
      intro hh
      have hp := hh p List.mem_cons_self
      show (PyData.canLay0 (dSS p) && PyData.canLayAll0 (ps.map dSS)) = true
      rw [ih fun q hq => hh q (List.mem_cons_of_mem _ hq)]
      simp [dSS, PyData.canLay0, PyData.canLayAll0, strOk_sm hp.1, strOk_sm hp.2]
  have h2 : ∀ ps : List (List Nat × List Nat), PyData.depthAll (ps.map dSS) ≤ 4 := by
    intro ps
    induction ps with
    | nil => exact Nat.zero_le _
    | cons p ps ih =>
      show max (PyData.depth (dSS p)) (PyData.depthAll (ps.map dSS)) ≤ 4
      have : PyData.depth (dSS p) ≤ 4 := by simp [dSS, PyData.depth, PyData.depthAll]
      omega
  have a := h1 ps hs
  have b := h2 ps
  unfold SeqAt.shaped
  simp [PyData.canLay0, PyData.depth, a]
  omega
theorem eqv_nil (ds : List PyData) : PyData.eqv (.list ds) (.list []) = decide (ds = []) := by
  cases ds with
  | nil => rfl
  | cons d ds =>
    rw [decide_eq_false (by simp)]
    simp [PyData.eqv, PyData.eqvAll]
theorem shaped_nil : SeqAt.shaped (.list []) = true := by decide
section
variable {K : PySem.W.Frag} {σ : L2.St} {H : Hp} {ta tb : TE}
theorem ev_neN {l : Addr} {vs : List V} {ds : List PyData} (ha : Ev ta σ H (.ref l)) (hl : H l = some (.lst vs)) (hd : DpAll K H vs ds) (hs : SeqAt.shaped (.list ds) = true) (hmono : ∀ H1, Ex H H1 → DpAll K H1 vs ds) : Ev (tOp (rNeD K) ta (tLst tNil)) σ H (.bl (!decide (ds = []))) := fun H1 e Q q =>
  ha H1 e _ fun H2 e2 => ⟨by show 0 ≤ sizeLine; decide, fun p np => ⟨.list ds, .list [], .lst (sq_of ((Ex.new np) _ _ (e2 _ _ (e _ _ hl)))) (hmono _ (e.trans (e2.trans (Ex.new np)))), .lst (sq_of upd_same) .nil, hs, shaped_nil, by rw [eqv_nil]; exact q _ (e2.trans (Ex.new np))⟩⟩
theorem ev_eqN {l : Addr} {vs : List V} {ds : List PyData} (ha : Ev ta σ H (.ref l)) (hl : H l = some (.lst vs)) (hs : SeqAt.shaped (.list ds) = true) (hmono : ∀ H1, Ex H H1 → DpAll K H1 vs ds) : Ev (tOp (rEqD K) ta (tLst tNil)) σ H (.bl (decide (ds = []))) := fun H1 e Q q =>
  ha H1 e _ fun H2 e2 => ⟨by show 0 ≤ sizeLine; decide, fun p np => ⟨.list ds, .list [], .lst (sq_of ((Ex.new np) _ _ (e2 _ _ (e _ _ hl)))) (hmono _ (e.trans (e2.trans (Ex.new np)))), .lst (sq_of upd_same) .nil, hs, shaped_nil, by rw [eqv_nil]; exact q _ (e2.trans (Ex.new np))⟩⟩
end
/-! a book as it stands -/
structure BookOk (n : Nat) (rs : List (List Nat × List Nat)) : Prop where
  hn : 1 ≤ n ∧ n ≤ 8
  hl : rs.length ≤ 10
  hr : ∀ p ∈ rs, RowL p.2 ∧ p.2.length = n
  hm : ∀ p ∈ rs, NameL p.1
  hd : (rs.map (·.1)).Nodup
def BookAt (K : PySem.W.Frag) (H : Hp) (v : V) (n : Nat) (rs : List (List Nat × List Nat)) : Prop := ∃ t b vs, v = .ref t ∧ H t = some (.tup [.int (n : Nat), .ref b]) ∧ H b = some (.tup vs) ∧ Prs K H vs rs
theorem BookAt.ex {K : PySem.W.Frag} {H H' : Hp} {v : V} {n : Nat} {rs : List (List Nat × List Nat)} (h : BookAt K H v n rs) (e : Ex H H') : BookAt K H' v n rs := let ⟨t, b, vs, a, c, d, f⟩ := h; ⟨t, b, vs, a, e _ _ c, e _ _ d, f.ex e⟩
theorem BookOk.small {n : Nat} {rs : List (List Nat × List Nat)} (h : BookOk n rs) : ∀ p ∈ rs, (∀ c ∈ p.1, c < 200) ∧ ∀ c ∈ p.2, c < 200 := fun p hp => ⟨fun c hc => by have := (h.hm p hp).2 c hc; omega, fun c hc => by rcases (h.hr p hp).1.2 c hc with z | z | z <;> omega⟩
theorem tup_lst {H : Hp} {t l : Addr} {xs ys : List V} (ht : H t = some (.tup xs)) (hl : H l = some (.lst ys)) : t ≠ l := fun z => by rw [z, hl] at ht; cases ht
end Hid

namespace Hid
open PySem PySem.Spec PyProof.Rows L2 Evl
/-! zip of two tuples, as a walk -/
theorem walk_zipT {K : PySem.W.Frag} {a b : Addr} {xs ys : List V} {n : Nat} (hn : n = min xs.length ys.length) : Walk (RZ.ItzT K a b) n (fun H => SqT K H a xs ∧ SqT K H b ys) (YPair (fun i => xs[i]?) (fun i => ys[i]?)) := by
  subst hn
  constructor
  · intro i H hi q
    have hx : i < xs.length := Nat.lt_of_lt_of_le hi (Nat.min_le_left _ _)
    have hy : i < ys.length := Nat.lt_of_lt_of_le hi (Nat.min_le_right _ _)
    exact ⟨xs, ys, xs[i], ys[i], q.1, q.2, List.getElem?_eq_getElem hx, List.getElem?_eq_getElem hy⟩
  · intro H q
    exact ⟨xs, ys, q.1, q.2, by omega⟩
  · rintro i H v H' _ q ⟨T, x, z, e, n, u, hx, hy⟩
    exact ⟨T, x, z, e, n, u, hx xs q.1, hy ys q.2⟩
/-! xs.remove(z), texts -/
def eqz (z : Str) (v : Value) : Bool := match v with
  | .str y _ => y.cps.toList == z.cps.toList
  | _ => false
theorem eqz_gives {z : Str} {t : Tok} : ∀ {us : List Value} {ys : List Str}, StrsAre us ys → ∀ v ∈ us, MeetsSeq.EqGives v (.str z t) (eqz z v)
  | _, _, .nil => fun _ h => nomatch h
  | _, _, .cons y t' r => fun v h => (List.mem_cons.mp h).elim (fun e => by rw [e]; exact SeqRoads2.EqGives.str y z t' t) (eqz_gives r v)
theorem strs_at' : ∀ {us : List Value} {ys : List Str}, StrsAre us ys → ∀ (j : Nat) (y : Str), ys[j]? = some y → ∃ t, us[j]? = some (.str y t)
  | _, _, .nil, j, y, h => by simp at h
  | _, _, .cons x t r, 0, y, h => by cases h; exact ⟨t, rfl⟩
  | _, _, .cons x t r, j + 1, y, h => strs_at' r j y h
theorem erase_at {z : Str} : ∀ {ys : List Str}, z ∈ ys → ∃ j, ys[j]? = some z ∧ (∀ (m : Nat) y, m < j → ys[m]? = some y → y ≠ z) ∧ ys.eraseIdx j = ys.erase z
  | [], h => nomatch h
  | y :: ys, h => by
    by_cases e : y = z
    · subst e
      exact ⟨0, rfl, fun m _ hm _ => absurd hm (Nat.not_lt_zero _), by simp⟩
    · have h' : z ∈ ys := (List.mem_cons.mp h).resolve_left fun q => e q.symm
      obtain ⟨j, a, b, c⟩ := erase_at h'
      refine ⟨j + 1, a, fun m x hm hx => ?_, ?_⟩
      · cases m with
        | zero => cases hx; exact e
        | succ m => exact b m x (Nat.lt_of_succ_lt_succ hm) hx
      · rw [List.erase_cons_tail (by simpa using e), ← c]
        rfl
section
variable {X : Cx}
def rRemS : V → List V → Hp → VK → Prop := fun x xs H Q => ∃ (l : Addr) (ys : List Str) (z : Str), x = .ref l ∧ xs = [.str z] ∧ H l = some (.lst (ys.map V.str)) ∧ z ∈ ys ∧ Q .non (upd H l (.lst ((ys.erase z).map V.str)))
theorem mt_removeS : MtM X "list.remove" rRemS := by
  rintro pins s σ H x xs v us Q I rx rxs ⟨l, ys, z, rfl, rfl, hH, hz, q⟩
  obtain ⟨j, hj, hno, he⟩ := erase_at hz
  obtain ⟨u, rfl, t, rfl⟩ := rxs.one
  cases rx
  obtain ⟨sz, its, n, r, hl, e⟩ := I.lstM hH
  have hi : StrsAre its ys := strs_of_vals r
  have hjy := (List.getElem?_eq_some_iff.mp hj).1
  rw [List.length_map] at hl sz
  have hjl : j < its.toArray.size := by rw [List.size_toArray, ← hl]; exact hjy
  refine call_meets PySem.F.slot_list_remove ⟨_, e, rfl⟩ PySem.F.entry_list_remove (PySem.F.args_list_remove_2 _ _) (MeetsSeq.list_remove l its.toArray n (.str z t) (eqz z) (fun y hy => eqz_gives hi y (by simpa using hy)) j hjl ?_ (fun m hm hmj => ?_) (by rw [List.size_toArray, ← hl]; exact sz)) ⟨e, ?_⟩
  · obtain ⟨tj, a⟩ := strs_at' hi j z hj
    have b : its.toArray[j] = .str z tj := by have := (List.getElem?_eq_some_iff.mp a).2; simpa using this
    rw [b]
    show (z.cps.toList == z.cps.toList) = true
    exact beq_self_eq_true _
  · have hmy : m < ys.length := by rw [List.size_toArray, ← hl] at hm; exact hm
    obtain ⟨tm, a⟩ := strs_at' hi m _ (List.getElem?_eq_getElem hmy)
    have b : its.toArray[m] = .str ys[m] tm := by have := (List.getElem?_eq_some_iff.mp a).2; simpa using this
    rw [b]
    show (ys[m].cps.toList == z.cps.toList) = false
    exact beq_eq_false_iff_ne.mpr fun c => hno m _ hmj (List.getElem?_eq_getElem hmy) (str_ext c)
  · have rr := r.eraseIdx j
    rw [← erase_map, he] at rr
    refine ⟨.non, _, I.lset (its' := its.eraseIdx j) (t' := s.toks) hH e ?_ rr ?_, rfl, q⟩
    · rw [List.eraseIdxIfInBounds_toArray]
    · rw [List.length_map]
      exact Nat.le_trans (List.length_erase_le) sz
/-! tuples whose object is known to be a plain one -/
def TD (o : Obj) : Prop := o.cls = .type "tuple" ∧ o.dict = none
def TupF (H : Hp) (a : Addr) (xs : List V) : Prop := ∃ o, TD o ∧ H a = some (.frz o (.tup xs))
theorem TupF.ex {H H' : Hp} {a : Addr} {xs : List V} (h : TupF H a xs) (e : Ex H H') : TupF H' a xs := let ⟨o, d, c⟩ := h; ⟨o, d, e _ _ c⟩
theorem TupF.sq {K : PySem.W.Frag} {H : Hp} {a : Addr} {xs : List V} (h : TupF H a xs) : SqT K H a xs := let ⟨o, _, c⟩ := h; .inl (.inr ⟨o, c⟩)
theorem TupF.ne {H : Hp} {a b : Addr} {xs ys : List V} (h : TupF H a xs) (hb : H b = some (.lst ys)) : a ≠ b := fun z => by
  obtain ⟨o, _, c⟩ := h
  rw [z, hb] at c
  cases c
theorem TupF.upd {H : Hp} {a b : Addr} {xs ys : List V} {u : HO} (h : TupF H a xs) (hb : H b = some (.lst ys)) : TupF (upd H b u) a xs := by
  have n := h.ne hb
  obtain ⟨o, d, c⟩ := h
  exact ⟨o, d, by rw [upd_ne n]; exact c⟩
def rTupF (K : PySem.W.Frag) : List V → Hp → VK → Prop := fun xs H Q => ∃ p ys, xs = [.ref p] ∧ SqL K H p ys ∧ ∀ l o, H l = none → TD o → Q (.ref l) (upd H l (.frz o (.tup ys)))
theorem cr_tupF : CallR X (.type "tuple") (rTupF X.K) := by
  rintro pins s σ H xs us Q I r ⟨p, ys, rfl, hq, q⟩
  obtain ⟨u, rfl, rx⟩ := vals1 r
  cases rx
  obtain ⟨its, r', pl, hz⟩ := I.list hq
  have hlen := r'.length
  refine call_tuple_list pl.isList (fun h' kp => ?_) (by rw [List.size_toArray, ← hlen]; exact hz)
  have I1 : Inv X pins σ H { s with heap := h' } := I.kept (t' := s.toks) kp
  have hn := I1.hok.fresh (a := h'.objs.size) (Nat.le_refl _)
  refine ⟨.ref h'.objs.size, _, I1.laid (t' := s.toks) (fun b o e => Heap.get?_push_of_some _ e) (Nat.le_refl _) ?_, rfl, q _ { cls := .type "tuple", data := .seq its.toArray } hn ⟨rfl, rfl⟩⟩
  exact ⟨Heap.get?_push_size _ rfl, hz, its, r', IsTup.new _ _⟩
def tTupF (t : TA) : TE := fun σ H Q => t σ H fun xs H1 => xs.length ≤ sizeLine ∧ ∀ p o, H1 p = none → TD o → Q (.ref p) (upd H1 p (.frz o (.tup xs)))
theorem pe_tupF {es : List Expr} {k : Nat} {pos : Pos} {t : TA} (h : PA X es t) : PE X (.Tuple es k pos) (tTupF t) := by
  refine ⟨fun pins s σ H Q I hq => ?_⟩
  refine wpAny_Tuple_spliced (thn (h.run pos pins s σ H _ I hq) fun us s1 ⟨xs, H1, I1, r, z, q⟩ => ⟨by rw [← r.length]; exact z, ?_⟩)
  have hf := I1.hok.fresh (a := s1.heap.objs.size) (Nat.le_refl _)
  refine ⟨.ref s1.heap.objs.size, _, I1.laid (t' := s1.toks) (fun b u e => Heap.get?_push_of_some _ e) (Nat.le_refl _) ?_, rfl, q _ { cls := .type "tuple", data := .seq us.toArray } hf ⟨rfl, rfl⟩⟩
  exact ⟨Heap.get?_push_size _ rfl, z, us, r, ⟨_, Heap.get?_push_size _ rfl, rfl, _, rfl⟩⟩
/-! dict(t), t a tuple of pairs of texts -/
def kS (p : List Nat × List Nat) : Key × V := (.inr (tx p.1), .str (tx p.2))
theorem prs_vals {pins : List (Addr × Obj)} {σ : L2.St} {H : Hp} {s : Shared} (I : Inv X pins σ H s) : ∀ {vs : List V} {its : List Value} {ps : List (List Nat × List Nat)}, Vals vs its → Prs X.K H vs ps →
    ∃ (Ts : Nat → Addr) (prs : List (Value × Value)) (kvs : List (Key × Value)), prs.length = its.length ∧ KV (ps.map kS) kvs ∧ (∀ (j : Nat) k v, prs[j]? = some (k, v) → its[j]? = some (.ref (Ts j)) ∧ IsTup s.heap (Ts j) #[k, v]) ∧ kvs.length = prs.length ∧ ∀ (i : Nat) key v, prs[i]? = some (key, v) → ∃ k, kvs[i]? = some (k, v) ∧ keyIs k key = true
  | _, _, _, .nil, .nil => ⟨fun _ => 0, [], [], rfl, .nil, fun j k v h => by simp at h, rfl, fun i k v h => by simp at h⟩
  | _, _, _, .cons rv rvs, .cons (b := p) ⟨t, ht, c⟩ ps => by
    subst ht
    cases rv
    obtain ⟨Ts, prs, kvs, h1, h2, h3, h4, h5⟩ := prs_vals I rvs ps
    obtain ⟨us, ru, pt, _⟩ := I.tuple (st_of c)
    obtain ⟨u, y, rfl, hu, hy⟩ := vals2 ru
    refine ⟨fun j => match j with | 0 => t | j + 1 => Ts j, (u, y) :: prs, (.inr (tx p.1), y) :: kvs, by rw [List.length_cons, List.length_cons, h1], .cons ⟨rfl, hy⟩ h2, fun j k v h => ?_, by rw [List.length_cons, List.length_cons, h4], fun i k v h => ?_⟩
    · cases j with
      | zero => cases h; exact ⟨rfl, pt⟩
      | succ j => exact h3 j k v h
    · cases i with
      | zero => cases h; exact ⟨_, rfl, kV_is (P := X.prog) (w := X.w) (k := .inr (tx p.1)) hu⟩
      | succ i => exact h5 i k v h
def rDictF (K : PySem.W.Frag) : List V → Hp → VK → Prop := fun xs H Q => ∃ (a : Addr) (vs : List V) (ps : List (List Nat × List Nat)), xs = [.ref a] ∧ TupF H a vs ∧ Prs K H vs ps ∧ ∀ p, H p = none → Q (.ref p) (upd H p (.dK (mergeK [] (ps.map kS))))
theorem cr_dictF (hc : X.calm = true) : CallR X (.type "dict") (rDictF X.K) := by
  rintro pins s σ H xs us Q I r ⟨a, vs, ps, rfl, ⟨o, ⟨hcl, hdi⟩, ha⟩, hp, q⟩
  obtain ⟨u, rfl, rx⟩ := vals1 r
  cases rx
  obtain ⟨hget, hz, its, rv, ob, hob, _, n, hdat⟩ := I.hok a _ ha
  rw [hget] at hob
  cases hob
  obtain ⟨Ts, prs, kvs, h1, h2, h3, h4, h5⟩ := prs_vals I rv hp
  have hl : its.length ≤ sizeLine := by rw [← rv.length]; exact hz
  refine PySem.call_dict_pairs (knd := mixKind X.prog X.w) (kvs := kvs) (PairArg.tuple a its.toArray Ts prs) (I.ok.hd hc) ⟨⟨o, n, hget, hcl, hdi, hdat⟩, by rw [List.size_toArray, h1], fun j k v h => ?_⟩ ⟨h4, fun i k v h => h5 i k v h⟩ (by rw [h1]; exact hl) fun h' tk hd' kp => ?_
  · obtain ⟨b, c⟩ := h3 j k v h
    exact ⟨by simpa using b, .inl c⟩
  · have hm : (s.heap.objs.size == sysModules) = false := beq_eq_false_iff_ne.mpr (Nat.ne_of_gt I.big)
    have hlen : (mergeK [] (ps.map kS)).length ≤ sizeLine := by
      have z := length_mergeK (ps.map kS) []
      rw [List.length_nil, Nat.zero_add, List.length_map, ← paired_len hp] at z
      exact Nat.le_trans z hz
    exact ⟨.ref s.heap.objs.size, _, I.laid (t' := tk) (fun b o e => kp b o (by simp) e) (Nat.le_refl _) (show ObjOk X.prog X.w _ _ _ (.dK (mergeK [] (ps.map kS))) from ⟨hlen, hm, merged [] kvs, KV.merge h2 .nil, hd'⟩), rfl, q _ (I.hok.fresh (Nat.le_refl _))⟩
end
/-! what the dict of a book tells of a name -/
theorem merge_out : ∀ (ps : List (List Nat × List Nat)) (acc : List (Key × V)) (z : Str), (∀ p ∈ ps, tx p.1 ≠ z) → valV (mergeK acc (ps.map kS)) (.inr z) = valV acc (.inr z)
  | [], _, _, _ => rfl
  | p :: ps, acc, z, h => by
    show valV (mergeK (putK acc (.inr (tx p.1)) (.str (tx p.2))) (ps.map kS)) (.inr z) = _
    rw [merge_out ps _ z fun q hq => h q (List.mem_cons_of_mem _ hq), valV_put, if_neg]
    intro e
    exact h p List.mem_cons_self (Sum.inr.inj e).symm
theorem merge_in : ∀ (ps : List (List Nat × List Nat)) (acc : List (Key × V)), (ps.map (·.1)).Nodup → ∀ p ∈ ps, valV (mergeK acc (ps.map kS)) (.inr (tx p.1)) = some (.str (tx p.2))
  | [], _, _, p, h => nomatch h
  | q :: ps, acc, nd, p, h => by
    show valV (mergeK (putK acc (.inr (tx q.1)) (.str (tx q.2))) (ps.map kS)) (.inr (tx p.1)) = _
    obtain ⟨n1, n2⟩ := List.nodup_cons.mp (show (q.1 :: ps.map (·.1)).Nodup from nd)
    rcases List.mem_cons.mp h with e | e
    · subst e
      rw [merge_out ps _ _ fun r hr z => n1 (List.mem_map.mpr ⟨r, hr, tx_inj z⟩), valV_put, if_pos rfl]
    · exact merge_in ps _ n2 p e
def rowOf (rs : List (List Nat × List Nat)) (x : Str) : List Nat := ((rs.find? fun p => decide (tx p.1 = x)).map (·.2)).getD []
theorem rowOf_in : ∀ {rs : List (List Nat × List Nat)}, (rs.map (·.1)).Nodup → ∀ p ∈ rs, rowOf rs (tx p.1) = p.2
  | [], _, p, h => nomatch h
  | q :: rs, nd, p, h => by
    obtain ⟨n1, n2⟩ := List.nodup_cons.mp (show (q.1 :: rs.map (·.1)).Nodup from nd)
    unfold rowOf
    rw [List.find?_cons]
    rcases List.mem_cons.mp h with e | e
    · subst e
      simp
    · have hne : ¬ tx q.1 = tx p.1 := fun z => n1 (List.mem_map.mpr ⟨p, e, (tx_inj z).symm⟩)
      rw [decide_eq_false hne]
      exact rowOf_in n2 p e
theorem book_get {rs : List (List Nat × List Nat)} {H : Hp} {d : Addr} (nd : (rs.map (·.1)).Nodup) (hd : H d = some (.dK (mergeK [] (rs.map kS)))) {p : List Nat × List Nat} (hp : p ∈ rs) : DGet H d (.str (tx p.1)) (some (.str (tx (rowOf rs (tx p.1))))) := by
  have := DGet.k (k := .inr (tx p.1)) hd
  rw [merge_in rs [] nd p hp] at this
  rw [rowOf_in nd p hp]
  exact this
/-! a book whose rows' tuple is a plain one -/
def BookF (K : PySem.W.Frag) (H : Hp) (v : V) (n : Nat) (rs : List (List Nat × List Nat)) : Prop := ∃ t b vs, v = .ref t ∧ H t = some (.tup [.int (n : Nat), .ref b]) ∧ TupF H b vs ∧ Prs K H vs rs
theorem BookF.ex {K : PySem.W.Frag} {H H' : Hp} {v : V} {n : Nat} {rs : List (List Nat × List Nat)} (h : BookF K H v n rs) (e : Ex H H') : BookF K H' v n rs := let ⟨t, b, vs, a, c, d, f⟩ := h; ⟨t, b, vs, a, e _ _ c, d.ex e, f.ex e⟩
end Hid

namespace Hid
open PySem PySem.Spec PyProof.Rows L2
/-! enumerate(x) of a text -/
def EsIt (x : Str) : It := ⟨fun i _ => i < x.cps.size, fun i G v G' => ∃ T c, v = .ref T ∧ G T = none ∧ G' = upd G T (.tup [.int (i : Nat), .str ⟨#[c]⟩]) ∧ x.cps[i]? = some c, fun i _ => x.cps.size ≤ i⟩
def EsAt (e it : Addr) (x : Str) (t : Tok) (i : Nat) (h : Heap) : Prop := i ≤ x.cps.size ∧ (∃ old, IsEnum h e it (0 + (i : Int)) old) ∧ h.IsStrIter it (strIterType x) x t i
theorem es_turn {P : Program} {w : World} {K : PySem.W.Frag} {es : List Expr} {kk : Nat} {tp : Pos} {e it : Addr} {x : Str} {t : Tok} (hei : e ≠ it) : Turn P w K (.Tuple es kk tp) (EsIt x) (e :: [it]) e (EsAt e it x t) where
  mem := List.mem_cons_self
  obj := fun i h st b hb => by
    obtain ⟨_, ⟨old, he⟩, ⟨o1, e1, _, d1⟩⟩ := st
    have e' : b = e ∨ b = it := by simpa using hb
    rcases e' with r | r <;> rw [r]
    · exact ⟨_, he, fun v n => nomatch n⟩
    · exact ⟨o1, e1, fun v n => by rw [d1] at n; cases n⟩
  keep := fun i h h' st k => let ⟨hi, ⟨old, he⟩, ⟨o1, e1, r1⟩⟩ := st; ⟨hi, ⟨old, k e (by simp) _ he⟩, ⟨o1, k it (by simp) _ e1, r1⟩⟩
  item := by
    intro X hP hw hK hc i pins s σ H E I hf st hg
    subst hP hw hK
    have G := GoesN.enumFrom (prog := X.prog) (w := X.w) (A := X.A) (elts := es) (x1 := kk) (pos := tp) 0 (Draws.text (A := X.A.in1) (I.ok.hd hc) it x t) e hei (by simpa using hei) (by simp)
    obtain ⟨hi, st⟩ := st
    refine wpAny_mono (G.goes i s (fun v s2 => ∃ xv H', Inv X pins σ H' s2 ∧ RelV xv v ∧ (EsIt x).yld i H xv H' ∧ EsAt e it x t (i + 1) s2.heap ∧ ∀ b ∈ e :: [it], H' b = none) E hg st fun v h' tk hY st' hk htk => ?_) (fun r s1 h1 => ?_) fun _ _ e => e
    · obtain ⟨T, tt, v2, rfl, hT, ⟨c, u1, hc1, rfl⟩, o, ho, ho1, n, ho2⟩ := hY
      have new : ObjOk X.prog X.w (upd H T (.tup [.int (i : Nat), .str ⟨#[c]⟩])) h' T (.tup [.int (i : Nat), .str ⟨#[c]⟩]) := ⟨by show 2 ≤ sizeLine; decide, [_, _], .cons ⟨tt, by rw [Int.zero_add]⟩ (.cons ⟨u1, rfl⟩ .nil), ⟨o, ho, ho1, n, ho2⟩⟩
      have J := I.turnedNew (t' := tk) (ch := [e, it]) hk (fun b hb => hf b hb) hT new
      refine ⟨.ref T, _, J, rfl, ⟨T, c, rfl, I.hok.fresh hT, rfl, hc1⟩, ⟨hg, by rw [Int.natCast_add] at *; exact st'⟩, fun b hb => ?_⟩
      have hb1 : b < s.heap.objs.size := by
        obtain ⟨⟨old, he⟩, ⟨o1, e1, r1⟩⟩ := st
        have e' : b = e ∨ b = it := by simpa using hb
        rcases e' with r | r <;> rw [r]
        · exact Heap.lt_size he
        · exact Heap.lt_size e1
      rw [upd_ne (Nat.ne_of_lt (Nat.lt_of_lt_of_le hb1 hT))]
      exact (hf b hb).1
    · exact h1
  done := by
    intro X hP hw hK hc i pins s σ H E I hf st hg
    subst hP hw hK
    have G := GoesN.enumFrom (prog := X.prog) (w := X.w) (A := X.A) (elts := es) (x1 := kk) (pos := tp) 0 (Draws.text (A := X.A.in1) (I.ok.hd hc) it x t) e hei (by simpa using hei) (by simp)
    obtain ⟨hi, st⟩ := st
    obtain rfl : i = x.cps.size := Nat.le_antisymm hi hg
    exact G.stops s (fun s1 => Inv X pins σ H s1) E st fun h' tk hk htk => I.turnedL (t' := tk) (ch := [e, it]) hk fun b hb => hf b hb
  self := fun A i s Q E st h => let ⟨_, ⟨_, he⟩, _⟩ := st; wpAny_pyIter_enum he h
def iEs (ta : TA) : TI := fun σ H R => ta σ H fun vs H1 => ∃ x, vs = [.str x] ∧ R (EsIt x) H1
theorem pi_es {X : Cx} {e : Expr} {ta : TA} {p pos tp : Pos} {es : List Expr} {kk : Nat} (hg : Gl X "enumerate") (hm : X.mg "enumerate" = none) (ha : PA X [e] ta) (hs : starEach [e] X.env = [(false, eval e X.env)] := by rfl) :
    PI X (.Tuple es kk tp) (.Call (.Name "enumerate" p) [e] [] pos) (iEs ta) := by
  refine ⟨fun pins s σ H R I h => ?_⟩
  refine Call_ (ld_blt I hg hm boot_enumerate (callWith_type1 (thn (ha.run pos pins s σ H _ I h) fun us s1 ⟨vs, H1, I1, r1, x, ex, q⟩ => ?_) hs rfl))
  subst ex
  cases r1 with
  | cons r rr =>
    cases rr
    obtain ⟨t, rfl⟩ := r
    refine call_enumerate_str fun h' he hit hsz hk => wpAny_pyIter_enum he ?_
    refine ⟨s1.heap.objs.size + 1, _, _, _, H1, rfl, I1.kept (t' := s1.toks) hk, es_turn (Nat.succ_ne_self _), ⟨Nat.zero_le _, ⟨.none, he⟩, hit⟩, fun b hb => ?_, q⟩
    have e' : b = s1.heap.objs.size + 1 ∨ b = s1.heap.objs.size := by simpa using hb
    have hle : s1.heap.objs.size ≤ b := by rcases e' with z | z <;> rw [z]; exact Nat.le_add_right _ _; exact Nat.le_refl _
    exact I1.fpOk hle (I1.hok.fresh hle)
end Hid

namespace Hid
open PySem PySem.Spec PyProof.Rows L2 Evl
/-! enumerate(l, start=k) of a list -/
def EkIt (a : Addr) (k : Int) : It := ⟨fun i G => ∃ xs x, G a = some (.lst xs) ∧ xs[i]? = some x, fun i G v G' => ∃ T x, v = .ref T ∧ G T = none ∧ G' = upd G T (.tup [.int (k + (i : Int)), x]) ∧ ∀ xs, G a = some (.lst xs) → xs[i]? = some x, fun i G => ∃ xs, G a = some (.lst xs) ∧ xs.length = i⟩
def EkAt (e it a : Addr) (k : Int) (i : Nat) (h : Heap) : Prop := (∃ old, IsEnum h e it (k + (i : Int)) old) ∧ h.IsListIter it a i
theorem ek_turn {P : Program} {w : World} {K : PySem.W.Frag} {es : List Expr} {kk : Nat} {tp : Pos} {e it a : Addr} {k : Int} (hei : e ≠ it) : Turn P w K (.Tuple es kk tp) (EkIt a k) (e :: [it]) e (EkAt e it a k) where
  mem := List.mem_cons_self
  obj := fun i h st b hb => by
    obtain ⟨⟨old, he⟩, ⟨o1, e1, _, d1⟩⟩ := st
    have e' : b = e ∨ b = it := by simpa using hb
    rcases e' with r | r <;> rw [r]
    · exact ⟨_, he, fun v n => nomatch n⟩
    · exact ⟨o1, e1, fun v n => by rw [d1] at n; cases n⟩
  keep := fun i h h' st k => let ⟨⟨old, he⟩, ⟨o1, e1, r1⟩⟩ := st; ⟨⟨old, k e (by simp) _ he⟩, ⟨o1, k it (by simp) _ e1, r1⟩⟩
  item := by
    intro X hP hw hK hc i pins s σ H E I hf st hg
    subst hP hw hK
    obtain ⟨xs, x, hq, hx⟩ := hg
    have nai : a ≠ it := ne_of_none hq (hf it (by simp)).1
    have nae : a ≠ e := ne_of_none hq (hf e (by simp)).1
    obtain ⟨its, rv, p, hz⟩ := I.list (SqL.of hq)
    obtain ⟨u, hu, ru⟩ := rv.get hx
    have G := GoesN.enumFrom (prog := X.prog) (w := X.w) (A := X.A) (elts := es) (x1 := kk) (pos := tp) k (Draws.list (A := X.A.in1) (I.ok.hd hc) it a nai its.toArray) e hei (by simp; exact ⟨hei, nae.symm⟩) (by simp)
    have hi : i < its.toArray.size := by rw [List.size_toArray]; exact (List.getElem?_eq_some_iff.mp hu).1
    refine wpAny_mono (G.goes i s (fun v s2 => ∃ xv H', Inv X pins σ H' s2 ∧ RelV xv v ∧ (EkIt a k).yld i H xv H' ∧ EkAt e it a k (i + 1) s2.heap ∧ ∀ b ∈ e :: [it], H' b = none) E hi ⟨st.1, st.2, p.isList⟩ fun v h' tk hY st' hk htk => ?_) (fun r s1 h1 => h1) fun _ _ e => e
    obtain ⟨T, tt, v2, rfl, hT, hv2, o, ho, ho1, n, ho2⟩ := hY
    obtain rfl : v2 = u := by
      have hv3 : its.toArray[i]? = some v2 := hv2
      rw [List.getElem?_toArray, hu] at hv3
      exact (Option.some.inj hv3).symm
    have new : ObjOk X.prog X.w (upd H T (.tup [.int (k + (i : Int)), x])) h' T (.tup [.int (k + (i : Int)), x]) := ⟨by show 2 ≤ sizeLine; decide, [_, _], .cons ⟨tt, rfl⟩ (.cons ru .nil), ⟨o, ho, ho1, n, ho2⟩⟩
    have J := I.turnedNew (t' := tk) (ch := [e, it]) hk (fun b hb => hf b hb) hT new
    refine ⟨.ref T, _, J, rfl, ⟨T, x, rfl, I.hok.fresh hT, rfl, fun ys hy => ?_⟩, ⟨by have := st'.1; rw [Int.natCast_add] at *; exact this, st'.2.1⟩, fun b hb => ?_⟩
    · rw [hq] at hy
      cases hy
      exact hx
    · have hb1 : b < s.heap.objs.size := by
        obtain ⟨⟨old, he⟩, ⟨o1, e1, r1⟩⟩ := st
        have e' : b = e ∨ b = it := by simpa using hb
        rcases e' with r | r <;> rw [r]
        · exact Heap.lt_size he
        · exact Heap.lt_size e1
      rw [upd_ne (Nat.ne_of_lt (Nat.lt_of_lt_of_le hb1 hT))]
      exact (hf b hb).1
  done := by
    intro X hP hw hK hc i pins s σ H E I hf st hg
    subst hP hw hK
    obtain ⟨xs, hq, hx⟩ := hg
    have nai : a ≠ it := ne_of_none hq (hf it (by simp)).1
    have nae : a ≠ e := ne_of_none hq (hf e (by simp)).1
    obtain ⟨its, rv, p, hz⟩ := I.list (SqL.of hq)
    have G := GoesN.enumFrom (prog := X.prog) (w := X.w) (A := X.A) (elts := es) (x1 := kk) (pos := tp) k (Draws.list (A := X.A.in1) (I.ok.hd hc) it a nai its.toArray) e hei (by simp; exact ⟨hei, nae.symm⟩) (by simp)
    obtain rfl : i = its.toArray.size := by rw [List.size_toArray, ← rv.length]; exact hx.symm
    exact G.stops s (fun s1 => Inv X pins σ H s1) E ⟨st.1, st.2, p.isList⟩ fun h' tk hk htk => I.turnedL (t' := tk) (ch := [e, it]) hk fun b hb => hf b hb
  self := fun A i s Q E st h => let ⟨⟨_, he⟩, _⟩ := st; wpAny_pyIter_enum he h
theorem walk_ek {a : Addr} {k : Int} {xs : List V} : Walk (EkIt a k) xs.length (fun H => H a = some (.lst xs)) (YPair (fun i => some (.int (k + (i : Int)))) (fun i => xs[i]?)) := by
  refine ⟨fun i G hi q => ⟨xs, xs[i], q, List.getElem?_eq_getElem hi⟩, fun G q => ⟨xs, q, rfl⟩, fun i G v G' hi q y => ?_⟩
  obtain ⟨T, x, h1, h2, h3, h4⟩ := y
  exact ⟨T, _, x, h1, h2, h3, rfl, h4 xs q⟩
theorem callWith_typeK {M : Model} {A : Around} {E : Value → Shared → Prop} {s : Shared} {pos : Pos} {T : String} {args : List (Bool × Sem Value)} {keywords : List (Option Str × Sem Value)} {Q : Value → Shared → Prop} (hp : args.any (·.1) = false) (hk : keywords.any (·.1.isNone) = false)
    (h : wpAny M A (evalArgs (.type T) true args keywords) (fun a s₁ => wpAny M A (call (.type T) a.pos a.kw) Q E s₁) E s) : wpAny M A (callWith pos (.type T) [] args keywords) Q E s := by
  unfold callWith; refine wpAny_bind (wpAny_holding (wpAny_mono h (fun a s₁ h₁ => wpAny_bind (wpAny_standAt ?_)) fun _ _ x => x)); simp only [hp, hk, Bool.or_false]
  refine wpAny_bind (wpAny_pure ?_); exact wpAny_bind (wpAny_mono h₁ (fun r s₂ hr => wpAny_bind (wpAny_holding (wpAny_point (wpAny_pure hr)))) fun _ _ x => x)
def iEk (ta tk : TA) : TI := fun σ H R => ta σ H fun vs H1 => tk σ H1 fun ws H2 => ∃ a xs k, vs = [.ref a] ∧ ws = [.int k] ∧ H2 a = some (.lst xs) ∧ (-1000 ≤ k ∧ k ≤ 1000) ∧ R (EkIt a k) H2
theorem pi_ek {X : Cx} {e c : Expr} {ta tk : TA} {p pos tp kp : Pos} {es : List Expr} {kk : Nat} (hg : Gl X "enumerate") (hm : X.mg "enumerate" = none) (ha : PA X [e] ta) (hk : PK X [⟨some "start", c, kp⟩] tk) (hs : starEach [e] X.env = [(false, eval e X.env)] := by rfl)
    (hks : (backToKw pos (keywordEach [⟨some "start", c, kp⟩] X.env)).filterMap (·.1) = [Str.ofString "start"] := by rfl) (hall : (backToKw pos (keywordEach [⟨some "start", c, kp⟩] X.env)).all (·.1.isSome) = true := by rfl) (hno : (backToKw pos (keywordEach [⟨some "start", c, kp⟩] X.env)).any (·.1.isNone) = false := by rfl) :
    PI X (.Tuple es kk tp) (.Call (.Name "enumerate" p) [e] [⟨some "start", c, kp⟩] pos) (iEk ta tk) := by
  refine ⟨fun pins s σ H R I h => ?_⟩
  have hA := ha.run pos pins s σ H _ I h
  rw [hs] at hA
  refine wpAny_Call_Name_kw (ld_blt I hg hm boot_enumerate ?_)
  rw [hs]
  refine callWith_typeK rfl hno (evalArgs_kwB hall (thn hA fun us s1 ⟨vs, H1, I1, r1, q1⟩ => thn (hk.run pos pins s1 σ H1 _ I1 q1) fun ws s2 ⟨zs, H2, I2, r2, q2⟩ => ?_))
  rw [hks]
  obtain ⟨a, xs, k, ex, ez, hq, ⟨k0, k1⟩, q⟩ := q2
  subst ex ez
  obtain ⟨u, rfl, ru⟩ := vals1 r1
  obtain ⟨v, rfl, t, rfl⟩ := vals1 r2
  cases ru
  obtain ⟨its, rv, p', hz⟩ := I2.list (SqL.of hq)
  refine enum_begins_start (begins_list a its.toArray) p'.isList (by omega) (by omega) fun h' he hit hsz hkp => wpAny_pyIter_enum he ?_
  refine ⟨s2.heap.objs.size + 1, _, _, _, H2, rfl, I2.kept (t' := s2.toks) hkp, ek_turn (Nat.succ_ne_self _), ⟨⟨.none, by rw [show k + ((0 : Nat) : Int) = k by omega]; exact he⟩, ⟨_, hit, rfl, rfl⟩⟩, fun b hb => ?_, q⟩
  have e' : b = s2.heap.objs.size + 1 ∨ b = s2.heap.objs.size := by simpa using hb
  have hle : s2.heap.objs.size ≤ b := by rcases e' with z | z <;> rw [z]; exact Nat.le_add_right _ _; exact Nat.le_refl _
  exact I2.fpOk hle (I2.hok.fresh hle)
/-! tuple(d.values()) -/
section
variable {prog : Program} {w : World} {A : Around} {E : Value → Shared → Prop} {s : Shared} {T : String} {r d : Addr} {n : Nat} {P : Nat → Value → Prop} {OK : Heap → Prop}
theorem collect_src {Q : List Value → Shared → Prop} (K : PySem.W.KdlSrc prog w T r d n P OK) (hh : A.handled = none) (hok : OK s.heap) (hn : n ≤ sizeLine)
    (hQ : ∀ h' tk acc, (∀ b o, s.heap.get? b = some o → h'.get? b = some o) → ItemsOf P acc n → Q acc.toList { s with heap := h', toks := tk }) : wpAny (model prog w) A (collect (.ref r)) Q E s := by
  have hlt := K.there _ hok
  unfold collect
  refine wpAny_bind (wpAny_runValue ((?_ : ∀ R : Result → Shared → Prop, (∀ h' tk acc' c', (∀ b o, s.heap.get? b = some o → h'.get? b = some o) → h'.get? s.heap.objs.size = some { cls := .type "list", dict := none, data := .seq acc' c', slots := #[] } → ItemsOf P acc' n → R (.ok (.ret (.ref s.heap.objs.size))) { s with heap := h', toks := tk }) → codeAny (model prog w) A _ R s) _ fun h' tk acc' c' hk hS' hacc => ?_))
  · intro R hR
    refine codeAny_builtin F.entry_proto_collect ?_
    rw [Around.under_plainId F.plain_proto_collect _]
    show wpAny _ A.in1 (newList [] >>= fun l => again (.builtin "list.__iadd__" ⟨[l, .ref r], []⟩)) _ _ s
    refine wpAny_bind (wpAny_newObj_type ?_); refine wpAny_pure ⟨plainId_quiet F.plain_list_iadd _, codeAny_builtin F.entry_list_iadd ?_⟩; rw [Around.under_plainId F.plain_list_iadd _]
    show wpAny _ A.in1 (Builtin.List.listExtendWith (.ref s.heap.objs.size) (.ref r) (.ref s.heap.objs.size)) _ _ _
    exact PySem.W.kdl_extend (R := R) (s := { s with heap := s.heap.push { cls := .type "list", data := .seq ([] : List Value).toArray } }) K hh (K.keep _ _ hok fun b _ o e => Heap.get?_push_of_some _ e) _ (Nat.ne_of_gt hlt.1) (Nat.ne_of_gt hlt.2) _ 0 (Heap.get?_push_size _ rfl) (fun h' tk acc' c' hk hS' hacc => hR h' tk acc' c' (fun b o e => hk b o (Nat.ne_of_lt (Heap.lt_size e)) (Heap.get?_push_of_some _ e)) hS' hacc) hn
  · show wpAny _ A (load s.heap.objs.size >>= _) _ _ _
    refine wpAny_bind (wpAny_load hS' ?_)
    exact wpAny_pure (hQ h' tk acc' hk hacc)
theorem tupSrc {Q : Value → Shared → Prop} (K : PySem.W.KdlSrc prog w T r d n P OK) (hh : A.handled = none) (hok : OK s.heap) (hn : n ≤ sizeLine)
    (hQ : ∀ (h' : Heap) (tk : Nat) (acc : Array Value), (∀ b o, s.heap.get? b = some o → h'.get? b = some o) → ItemsOf P acc n → Q (.ref h'.objs.size) { s with heap := h'.push { cls := .type "tuple", data := .seq acc }, toks := tk }) :
    wpAny (model prog w) A (call (.type "tuple") [.ref r]) Q E s := by
  have code : codeAny (model prog w) A.in1 (.call (.builtin "tuple.__new__") ⟨[.type "tuple", .ref r], []⟩) (wants (fun obj s₁ => s₁.TypeIs obj "tuple" ∧ Q obj s₁) E) s := by
    refine codeAny_of_tree ?_
    show wpAny _ A.in1.in1 (do checkBuiltinCall "tuple.__new__" ⟨[.type "tuple", .ref r], []⟩; again (.builtin "tuple.__new__" ⟨[.type "tuple", .ref r], []⟩)) _ _ s
    refine wpAny_bind (wpAny_of_eq (F.newCall_tuple_1 _) (wpAny_pure ⟨plainId_quiet F.plain_tuple_new _, codeAny_builtin F.entry_tuple_new ?_⟩)); rw [Around.under_plainId F.plain_tuple_new _]
    have hsub := sub_tuple_self; have hinit := init_tuple_lookup; have hmh := madeHere_tuple
    have hTI : s.TypeIs (.ref r) T := K.type s hok
    have hnt := K.notTuple
    wp_walk using wpAny_typeOf hTI, collect_src (A := A.in1.in1) K hh hok hn
    intro h' tk acc hk hacc
    show wpAny _ _ (Builtin.Tuple.tupleExact acc.toList.toArray >>= fun v => ret v) _ _ _
    unfold Builtin.Tuple.tupleExact; refine wpAny_bind (wpAny_newObj_type ?_ (by show acc.toList.toArray.size ≤ sizeLine; simp only [Array.toArray_toList]; rw [hacc.1]; exact hn)) <;> refine wpAny_pure ?_
    rw [show acc.toList.toArray = acc by simp]
    exact ⟨⟨_, Heap.get?_push_size _ rfl, rfl⟩, hQ h' tk acc hk hacc⟩
  refine callType_codes (Q₁ := fun obj s₁ => s₁.TypeIs obj "tuple" ∧ Q obj s₁) F.called_tuple (F.typeCall_tuple_1 _) F.entry_object_init code fun obj s₁ h₁ => ?_
  exact ⟨h₁.1, F.args_object_init_2 obj _, object_init_meets F.called_tuple.init.lookup F.called_tuple.made (by decide) prog w A.in1 _ s₁ ⟨h₁.1, rfl, h₁.2⟩⟩
end
def tTupVals (te : TE) : TE := fun σ H Q => te σ H fun x H1 => ∃ d kvs, x = .ref d ∧ H1 d = some (.dK kvs) ∧ ∀ p o, H1 p = none → TD o → Q (.ref p) (upd H1 p (.frz o (.tup (kvs.map (·.2)))))
theorem pe_tupVals {X : Cx} {e : Expr} {te : TE} {p pos apos cpos : Pos} (hc : X.calm = true) (hg : Gl X "tuple") (hm : X.mg "tuple" = none) (he : PE X e te) (hbase : attributeBase e "values" X.env (eval e X.env) = eval e X.env := by rfl) (hline : (apos.endLine == cpos.line) = true := by rfl)
    (hs : starEach [.Call (.Attribute e "values" apos) [] [] cpos] X.env = (false, eval (.Call (.Attribute e "values" apos) [] [] cpos) X.env) :: starEach [] X.env := by rfl) :
    PE X (.Call (.Name "tuple" p) [.Call (.Attribute e "values" apos) [] [] cpos] [] pos) (tTupVals te) := by
  refine ⟨fun pins s σ H Q I h => ?_⟩
  refine Call_ (ld_blt I hg hm (by decide +kernel : bootBuiltins "tuple" = some (.type "tuple")) (callWith_type1 (args_cons ?_ hs) hs rfl))
  refine wpAny_Call_method (T := "dict") (id := "dict.values") hbase rfl hline PySem.F.plainAttrs_dict PySem.F.slot_dict_values PySem.F.type_dict_values (thn (he.run pins s σ H _ I h) fun u s1 ⟨x, H1, I1, rx, d, kvs, ex, hd, q⟩ => ?_)
  subst ex
  obtain rfl : u = Value.ref d := rx
  obtain ⟨hz, hsy, vs, kv, hD⟩ := I1.hok d _ hd
  have hl : kvs.length = vs.length := Paired.length kv
  refine ⟨hD.typeIs, hD.mapOf.noDict, ?_⟩
  have I2 : Inv X pins σ H1 { s1 with heap := s1.heap.push { cls := .type "dict_values", data := .fields #[.ref d] } } := I1.kept (t' := s1.toks) fun b ob q => Heap.get?_push_of_some _ q
  have hh := I1.ok.hd hc
  have fin : wpAny (model X.prog X.w) X.A (call (.type "tuple") [.ref s1.heap.objs.size]) (EP X pins σ Q) X.xe { s1 with heap := s1.heap.push { cls := .type "dict_values", data := .fields #[.ref d] } } := by
    obtain ⟨o, es, ep, ho, hx⟩ := hD
    refine tupSrc (n := vs.length) (PySem.W.kdl_values (knd := mixKind X.prog X.w) (kvs := vs) (ep := ep) (d := d) (r := s1.heap.objs.size)) hh ⟨⟨_, Heap.get?_push_size _ rfl, rfl, rfl⟩, ?_⟩ (by rw [← hl]; exact hz) fun h' tk acc hk hacc => ?_
    · exact ⟨o, es, Heap.get?_push_of_some _ ho, hx⟩
    · have I3 : Inv X pins σ H1 { s1 with heap := h', toks := tk } := I1.kept (t' := tk) fun b ob e => hk b ob (Heap.get?_push_of_some _ e)
      have rv : Vals (kvs.map (·.2)) acc.toList := by
        have key : ∀ {kvs : List (Key × V)} {vs : List (Key × Value)}, KV kvs vs → ∀ us : List Value, us.length = vs.length → (∀ (j : Nat) v, us[j]? = some v → ∃ k, vs[j]? = some (k, v)) → Vals (kvs.map (·.2)) us := by
          intro kvs vs kv
          induction kv with
          | nil =>
            intro us hl _
            cases us with
            | nil => exact .nil
            | cons u us => cases hl
          | @cons a b l m r t ih =>
            intro us hl hu
            cases us with
            | nil => cases hl
            | cons u us =>
              obtain ⟨k, hk⟩ := hu 0 u rfl
              have hb : b = (k, u) := Option.some.inj hk
              subst hb
              exact .cons r.2 (ih us (by simpa using hl) fun j v hj => hu (j + 1) v hj)
        refine key kv acc.toList (by rw [Array.length_toList]; exact hacc.1) fun j v hj => hacc.2 j v (by rw [← Array.getElem?_toList]; exact hj)
      have hlen : (kvs.map (·.2)).length ≤ sizeLine := by rw [List.length_map]; exact hz
      refine ⟨.ref h'.objs.size, _, I3.laid (t' := tk) (fun c o e => Heap.get?_push_of_some _ e) (Nat.le_refl _) ?_, rfl, q _ { cls := .type "tuple", data := .seq acc } (I3.hok.fresh (Nat.le_refl _)) ⟨rfl, rfl⟩⟩
      refine ⟨Heap.get?_push_size _ rfl, hlen, acc.toList, rv, ?_⟩
      rw [Array.toArray_toList]; exact IsTup.new _ _
  show wpAny _ _ (callWith cpos (.builtin "dict.values") [.ref d] [] []) _ X.xe s1
  exact method_meetsIn PySem.F.slot_dict_values PySem.F.entry_dict_values rfl (PySem.evalArgs_none ⟨rfl, hD.typeIs, PySem.F.args_dict_values_1 _, _, meets_dict_values (mixKind X.prog X.w) d hsy, ⟨vs, hD⟩, args_nil fin⟩)
end Hid

namespace Hid
open PySem PySem.Spec PyProof.Rows L2 Evl
/-! enumerate(t) of a tuple that was made -/
def EtIt (a : Addr) : It := ⟨fun i G => ∃ xs x, G a = some (.tup xs) ∧ xs[i]? = some x, fun i G v G' => ∃ T x, v = .ref T ∧ G T = none ∧ G' = upd G T (.tup [.int (i : Nat), x]) ∧ ∀ xs, G a = some (.tup xs) → xs[i]? = some x, fun i G => ∃ xs, G a = some (.tup xs) ∧ xs.length = i⟩
def EtAt (e it a : Addr) (i : Nat) (h : Heap) : Prop := (∃ old, IsEnum h e it (0 + (i : Int)) old) ∧ h.IsTupleIter it a i
theorem et_turn {P : Program} {w : World} {K : PySem.W.Frag} {es : List Expr} {kk : Nat} {tp : Pos} {e it a : Addr} (hei : e ≠ it) : Turn P w K (.Tuple es kk tp) (EtIt a) (e :: [it]) e (EtAt e it a) where
  mem := List.mem_cons_self
  obj := fun i h st b hb => by
    obtain ⟨⟨old, he⟩, ⟨o1, e1, _, d1⟩⟩ := st
    have e' : b = e ∨ b = it := by simpa using hb
    rcases e' with r | r <;> rw [r]
    · exact ⟨_, he, fun v n => nomatch n⟩
    · exact ⟨o1, e1, fun v n => by rw [d1] at n; cases n⟩
  keep := fun i h h' st k => let ⟨⟨old, he⟩, ⟨o1, e1, r1⟩⟩ := st; ⟨⟨old, k e (by simp) _ he⟩, ⟨o1, k it (by simp) _ e1, r1⟩⟩
  item := by
    intro X hP hw hK hc i pins s σ H E I hf st hg
    subst hP hw hK
    obtain ⟨xs, x, hq, hx⟩ := hg
    have nai : a ≠ it := ne_of_none hq (hf it (by simp)).1
    have nae : a ≠ e := ne_of_none hq (hf e (by simp)).1
    obtain ⟨its, rv, p, hz⟩ := I.tuple (SqT.of hq)
    obtain ⟨u, hu, ru⟩ := rv.get hx
    have G := GoesN.enumFrom (prog := X.prog) (w := X.w) (A := X.A) (elts := es) (x1 := kk) (pos := tp) 0 (Draws.tuple (A := X.A.in1) (I.ok.hd hc) it a nai its.toArray) e hei (by simp; exact ⟨hei, nae.symm⟩) (by simp)
    have hi : i < its.toArray.size := by rw [List.size_toArray]; exact (List.getElem?_eq_some_iff.mp hu).1
    refine wpAny_mono (G.goes i s (fun v s2 => ∃ xv H', Inv X pins σ H' s2 ∧ RelV xv v ∧ (EtIt a).yld i H xv H' ∧ EtAt e it a (i + 1) s2.heap ∧ ∀ b ∈ e :: [it], H' b = none) E hi ⟨st.1, st.2, p⟩ fun v h' tk hY st' hk htk => ?_) (fun r s1 h1 => h1) fun _ _ e => e
    obtain ⟨T, tt, v2, rfl, hT, hv2, o, ho, ho1, n, ho2⟩ := hY
    obtain rfl : v2 = u := by
      have hv3 : its.toArray[i]? = some v2 := hv2
      rw [List.getElem?_toArray, hu] at hv3
      exact (Option.some.inj hv3).symm
    have new : ObjOk X.prog X.w (upd H T (.tup [.int (i : Nat), x])) h' T (.tup [.int (i : Nat), x]) := ⟨by show 2 ≤ sizeLine; decide, [_, _], .cons ⟨tt, by rw [Int.zero_add]⟩ (.cons ru .nil), ⟨o, ho, ho1, n, ho2⟩⟩
    have J := I.turnedNew (t' := tk) (ch := [e, it]) hk (fun b hb => hf b hb) hT new
    refine ⟨.ref T, _, J, rfl, ⟨T, x, rfl, I.hok.fresh hT, rfl, fun ys hy => ?_⟩, ⟨by have := st'.1; rw [Int.natCast_add] at *; exact this, st'.2.1⟩, fun b hb => ?_⟩
    · rw [hq] at hy
      cases hy
      exact hx
    · have hb1 : b < s.heap.objs.size := by
        obtain ⟨⟨old, he⟩, ⟨o1, e1, r1⟩⟩ := st
        have e' : b = e ∨ b = it := by simpa using hb
        rcases e' with r | r <;> rw [r]
        · exact Heap.lt_size he
        · exact Heap.lt_size e1
      rw [upd_ne (Nat.ne_of_lt (Nat.lt_of_lt_of_le hb1 hT))]
      exact (hf b hb).1
  done := by
    intro X hP hw hK hc i pins s σ H E I hf st hg
    subst hP hw hK
    obtain ⟨xs, hq, hx⟩ := hg
    have nai : a ≠ it := ne_of_none hq (hf it (by simp)).1
    have nae : a ≠ e := ne_of_none hq (hf e (by simp)).1
    obtain ⟨its, rv, p, hz⟩ := I.tuple (SqT.of hq)
    have G := GoesN.enumFrom (prog := X.prog) (w := X.w) (A := X.A) (elts := es) (x1 := kk) (pos := tp) 0 (Draws.tuple (A := X.A.in1) (I.ok.hd hc) it a nai its.toArray) e hei (by simp; exact ⟨hei, nae.symm⟩) (by simp)
    obtain rfl : i = its.toArray.size := by rw [List.size_toArray, ← rv.length]; exact hx.symm
    exact G.stops s (fun s1 => Inv X pins σ H s1) E ⟨st.1, st.2, p⟩ fun h' tk hk htk => I.turnedL (t' := tk) (ch := [e, it]) hk fun b hb => hf b hb
  self := fun A i s Q E st h => let ⟨⟨_, he⟩, _⟩ := st; wpAny_pyIter_enum he h
/-- enumerate(v) of one thing whose iterator is known -/
theorem enum_one {v : Value} {o : Obj} {H : Heap → Prop} (B : Begins v o H) :
    Meets (Builtin.«enumerate.__new__» ⟨[.type "enumerate", v], []⟩) (fun _ R s => H s.heap ∧
      R (.ok (.ret (.ref (s.heap.push o).objs.size))) { s with heap := (s.heap.push o).push { cls := .type "enumerate", data := .fields #[.none, .bool false, .ref s.heap.objs.size, rawInt 0, .none, .none] } }) :=
  .of_wp fun prog w A R s h => by
    obtain ⟨hp, g, dr, tk, os⟩ := s; obtain ⟨hH, h⟩ := h
    have f1 := sub_enumerate
    have it : ∀ {A' : Around} {E : Value → Shared → Prop} {Q : Value → Shared → Prop}, Q (.ref hp.objs.size) ⟨hp.push o, g, dr, tk, os⟩ → wpAny (model prog w) A' (pyIter v) Q E ⟨hp, g, dr, tk, os⟩ := fun q => B.iter prog w _ _ ⟨hp, g, dr, tk, os⟩ _ hH q
    wp_walk using it
    refine wpAny_stack_any fun st => wpAny_pure ?_
    split
    · rename_i c _ _ _ _ _
      cases (c == Value.type "enumerate") <;> wp_walk using it <;> exact ⟨_, rfl, h⟩
    · wp_walk using it <;> exact ⟨_, rfl, h⟩
theorem call_enum_one {prog : Program} {w : World} {A : Around} {E : Value → Shared → Prop} {s : Shared} {v : Value} {o : Obj} {H : Heap → Prop} {Q : Value → Shared → Prop} (B : Begins v o H) (hH : H s.heap)
    (h : ∀ h', IsEnum h' (s.heap.objs.size + 1) s.heap.objs.size 0 .none → h'.get? s.heap.objs.size = some o → (∀ b u, s.heap.get? b = some u → h'.get? b = some u) → Q (.ref (s.heap.objs.size + 1)) { s with heap := h' }) : wpAny (model prog w) A (call (.type "enumerate") [v]) Q E s := by
  refine callType_new F.called_enumerate (by decide) (F.typeCall_enumerate_1 _) (F.newCall_enumerate_1 _) (fun obj => F.args_object_init_2 obj _) F.entry_enumerate_new (enum_one B) ⟨hH, ?_⟩
  have z : (s.heap.push o).objs.size = s.heap.objs.size + 1 := Heap.size_push ..
  show _ ∧ _
  rw [z]
  have he : IsEnum ((s.heap.push o).push { cls := .type "enumerate", data := .fields #[.none, .bool false, .ref s.heap.objs.size, rawInt 0, .none, .none] }) (s.heap.objs.size + 1) s.heap.objs.size 0 .none := by
    have g := Heap.get?_push_size (s.heap.push o) (o := { cls := .type "enumerate", data := .fields #[.none, .bool false, .ref s.heap.objs.size, rawInt 0, .none, .none] }) rfl
    rw [z] at g; exact g
  exact ⟨⟨_, he, rfl⟩, h _ he (Heap.get?_push_of_some _ (Heap.get?_push_size _ B.free)) fun b u x => Heap.get?_push_of_some _ (Heap.get?_push_of_some _ x)⟩
def iEt (ta : TA) : TI := fun σ H R => ta σ H fun vs H1 => ∃ a xs, vs = [.ref a] ∧ H1 a = some (.tup xs) ∧ R (EtIt a) H1
theorem pi_et {X : Cx} {e : Expr} {ta : TA} {p pos tp : Pos} {es : List Expr} {kk : Nat} (hg : Gl X "enumerate") (hm : X.mg "enumerate" = none) (ha : PA X [e] ta) (hs : starEach [e] X.env = [(false, eval e X.env)] := by rfl) :
    PI X (.Tuple es kk tp) (.Call (.Name "enumerate" p) [e] [] pos) (iEt ta) := by
  refine ⟨fun pins s σ H R I h => ?_⟩
  refine Call_ (ld_blt I hg hm boot_enumerate (callWith_type1 (thn (ha.run pos pins s σ H _ I h) fun us s1 ⟨vs, H1, I1, r1, a, xs, ex, hq, q⟩ => ?_) hs rfl))
  subst ex
  obtain ⟨u, rfl, ru⟩ := vals1 r1
  cases ru
  obtain ⟨its, rv, pt, hz⟩ := I1.tuple (SqT.of hq)
  refine call_enum_one (begins_tuple a its.toArray) pt fun h' he hit hk => wpAny_pyIter_enum he ?_
  refine ⟨s1.heap.objs.size + 1, _, _, _, H1, rfl, I1.kept (t' := s1.toks) hk, et_turn (Nat.succ_ne_self _), ⟨⟨.none, he⟩, ⟨_, hit, rfl, rfl⟩⟩, fun b hb => ?_, q⟩
  have e' : b = s1.heap.objs.size + 1 ∨ b = s1.heap.objs.size := by simpa using hb
  have hle : s1.heap.objs.size ≤ b := by rcases e' with z | z <;> rw [z]; exact Nat.le_add_right _ _; exact Nat.le_refl _
  exact I1.fpOk hle (I1.hok.fresh hle)
theorem walk_et {a : Addr} {xs : List V} : Walk (EtIt a) xs.length (fun H => H a = some (.tup xs)) (YPair (fun i => some (.int (i : Nat))) (fun i => xs[i]?)) := by
  refine ⟨fun i G hi q => ⟨xs, xs[i], q, List.getElem?_eq_getElem hi⟩, fun G q => ⟨xs, q, rfl⟩, fun i G v G' hi q y => ?_⟩
  obtain ⟨T, x, h1, h2, h3, h4⟩ := y
  exact ⟨T, _, x, h1, h2, h3, rfl, h4 xs q⟩
end Hid

namespace Hid
open PySem PySem.Spec PyProof.Rows L2
/-! texts laid together with one sign between, and parted again -/
def jn (c : Nat) : List (List Nat) → List Nat
  | [] => []
  | [l] => l
  | l :: m :: r => l ++ c :: jn c (m :: r)
theorem join_jn (c : Nat) : ∀ ls : List (List Nat), Txt.join (sg1 c) (ls.map tx) = tx (jn c ls) := by
  intro ls
  show Builtin.Str.glued _ _ = _
  rw [StrLaws.glued_eq_join]
  induction ls with
  | nil => rfl
  | cons l r ih =>
    cases r with
    | nil => rfl
    | cons m r =>
      have e : Str.join (sg1 c) ((l :: m :: r).map tx) = tx l ++ sg1 c ++ Str.join (sg1 c) ((m :: r).map tx) := rfl
      rw [e, ih]
      show (⟨(l.toArray ++ #[c]) ++ (jn c (m :: r)).toArray⟩ : Str) = ⟨(l ++ c :: jn c (m :: r)).toArray⟩
      simp
theorem cut_at {c : Nat} : ∀ {l m r s : List Nat}, c ∉ l → c ∉ m → l ++ c :: r = m ++ c :: s → l = m ∧ r = s
  | [], [], r, s, _, _, e => by simp at e; exact ⟨rfl, e⟩
  | [], y :: m, r, s, _, hm, e => by
    simp at e
    exact absurd (by rw [e.1]; exact List.mem_cons_self) hm
  | x :: l, [], r, s, hl, _, e => by
    simp at e
    exact absurd (by rw [e.1]; exact List.mem_cons_self) hl
  | x :: l, y :: m, r, s, hl, hm, e => by
    simp at e
    obtain ⟨a, b⟩ := cut_at (fun z => hl (List.mem_cons_of_mem _ z)) (fun z => hm (List.mem_cons_of_mem _ z)) e.2
    exact ⟨by rw [e.1, a], b⟩
theorem jn_inj {c : Nat} : ∀ {ls ms : List (List Nat)}, ls ≠ [] → ms ≠ [] → (∀ l ∈ ls, c ∉ l) → (∀ l ∈ ms, c ∉ l) → jn c ls = jn c ms → ls = ms
  | [], _, h, _, _, _, _ => absurd rfl h
  | _ :: _, [], _, h, _, _, _ => absurd rfl h
  | [l], [m], _, _, _, _, e => by
    have : l = m := e
    rw [this]
  | [l], m :: m' :: r, _, _, hl, _, e => by
    have e' : l = m ++ c :: jn c (m' :: r) := e
    exact absurd (by rw [e']; simp) (hl l List.mem_cons_self)
  | l :: l' :: r, [m], _, _, _, hm, e => by
    have e' : l ++ c :: jn c (l' :: r) = m := e
    exact absurd (by rw [← e']; simp) (hm m List.mem_cons_self)
  | l :: l' :: r, m :: m' :: s, _, _, hl, hm, e => by
    have e' : l ++ c :: jn c (l' :: r) = m ++ c :: jn c (m' :: s) := e
    obtain ⟨a, b⟩ := cut_at (hl l List.mem_cons_self) (hm m List.mem_cons_self) e'
    rw [a, jn_inj (by simp) (by simp) (fun x hx => hl x (List.mem_cons_of_mem _ hx)) (fun x hx => hm x (List.mem_cons_of_mem _ hx)) b]
theorem split_jn {c : Nat} {ls : List (List Nat)} (h0 : ls ≠ []) (hf : ∀ l ∈ ls, c ∉ l) : Txt.split (tx (jn c ls)) (sg1 c) = ls.map tx := by
  have h1 := StrLaws.join_split (tx (jn c ls)) (sg1 c)
  have h2 := StrLaws.split_free (tx (jn c ls)) c
  have h3 : 1 ≤ (Txt.split (tx (jn c ls)) (sg1 c)).length := PyProof.Rows.split_pos _ _
  generalize hP : Txt.split (tx (jn c ls)) (sg1 c) = parts at h1 h3
  rw [show (⟨#[c]⟩ : Str) = sg1 c from rfl, hP] at h2
  have hm : parts = (parts.map fun p => p.cps.toList).map tx := by
    rw [List.map_map, show (tx ∘ fun p : Str => p.cps.toList) = id from funext fun z => tx_cps z, List.map_id]
  have h4 : Txt.join (sg1 c) ((parts.map fun p => p.cps.toList).map tx) = tx (jn c ls) := by
    rw [← hm]
    show Builtin.Str.glued _ _ = _
    rw [StrLaws.glued_eq_join]
    exact h1
  rw [join_jn] at h4
  have h5 := jn_inj (c := c) (by intro z; rw [List.map_eq_nil_iff] at z; rw [z] at h3; exact absurd h3 (by decide)) h0 (fun l hl => by
    obtain ⟨p, hp, rfl⟩ := List.mem_map.mp hl
    exact h2 p hp) hf (tx_inj h4)
  rw [hm, h5]
/-! a book as a text -/
def lineP (n : Nat) : List Nat := [112, 108, 97, 99, 101, 115, 32, 48 + n]
def lineR (p : List Nat × List Nat) : List Nat := p.1 ++ 32 :: p.2
def bookT (n : Nat) (rs : List (List Nat × List Nat)) : List Nat := jn 10 (lineP n :: rs.map lineR)
theorem jn_snoc (c : Nat) : ∀ (l : List Nat) (r : List (List Nat)) (m : List Nat), jn c (l :: r ++ [m]) = jn c (l :: r) ++ c :: m
  | l, [], m => rfl
  | l, x :: r, m => by
    show l ++ c :: jn c (x :: r ++ [m]) = (l ++ c :: jn c (x :: r)) ++ c :: m
    rw [jn_snoc c x r m]
    simp
theorem bookT_snoc (n : Nat) (rs : List (List Nat × List Nat)) (p : List Nat × List Nat) : bookT n (rs ++ [p]) = bookT n rs ++ 10 :: lineR p := by
  unfold bookT
  rw [List.map_append]
  exact jn_snoc 10 _ _ _
theorem lineR_split {p : List Nat × List Nat} (h1 : 32 ∉ p.1) (h2 : 32 ∉ p.2) : Txt.split (tx (lineR p)) (sg1 32) = [tx p.1, tx p.2] := by
  have := split_jn (c := 32) (ls := [p.1, p.2]) (by simp) (by
    intro l hl
    rcases List.mem_cons.mp hl with e | e
    · rw [e]; exact h1
    · rw [List.mem_singleton.mp e]; exact h2)
  exact this
theorem name_free {z : List Nat} (h : NameL z) {c : Nat} (hc : c < 97) : c ∉ z := fun hm => by have := (h.2 c hm).1; omega
theorem row_free {z : List Nat} (h : RowL z) {c : Nat} (hc : c < 97) : c ∉ z := fun hm => by rcases h.2 c hm with e | e | e <;> omega
theorem bookT_split {n : Nat} {rs : List (List Nat × List Nat)} (h : BookOk n rs) : Txt.split (tx (bookT n rs)) (sg1 10) = (lineP n :: rs.map lineR).map tx := by
  refine split_jn (by simp) fun l hl => ?_
  rcases List.mem_cons.mp hl with e | e
  · rw [e]
    unfold lineP
    simp
    omega
  · obtain ⟨p, hp, rfl⟩ := List.mem_map.mp e
    unfold lineR
    intro hm
    rcases List.mem_append.mp hm with z | z
    · exact name_free (h.hm p hp) (by decide) z
    · rcases List.mem_cons.mp z with z | z
      · cases z
      · exact row_free (h.hr p hp).1 (by decide) z
theorem bookT_len {n : Nat} {rs : List (List Nat × List Nat)} (h : BookOk n rs) : (bookT n rs).length ≤ 8 + 18 * rs.length := by
  have key : ∀ (l : List Nat) (ls : List (List Nat)), (∀ x ∈ ls, x.length ≤ 17) → (jn 10 (l :: ls)).length ≤ l.length + 18 * ls.length := by
    intro l ls
    induction ls generalizing l with
    | nil => intro _; exact Nat.le_refl _
    | cons m r ih =>
      intro hh
      have := ih m fun x hx => hh x (List.mem_cons_of_mem _ hx)
      have h2 := hh m List.mem_cons_self
      show (l ++ 10 :: jn 10 (m :: r)).length ≤ _
      rw [List.length_append, List.length_cons, List.length_cons]
      omega
  have := key (lineP n) (rs.map lineR) fun x hx => by
    obtain ⟨p, hp, rfl⟩ := List.mem_map.mp hx
    have a := (h.hm p hp).1
    have b := (h.hr p hp).1.1
    unfold lineR
    rw [List.length_append, List.length_cons]
    omega
  rw [List.length_map] at this
  exact this
theorem digit_str {n : Nat} (h : 1 ≤ n ∧ n ≤ 8) : (Str.ofString (toString (n : Int))) = sg1 (48 + n) := by
  have : n = 1 ∨ n = 2 ∨ n = 3 ∨ n = 4 ∨ n = 5 ∨ n = 6 ∨ n = 7 ∨ n = 8 := by omega
  rcases this with e | e | e | e | e | e | e | e <;> subst e <;> decide +kernel
end Hid

namespace Hid
open PySem PySem.Spec PyProof.Rows L2 Evl
/-! values told by their data -/
section
variable {K : PySem.W.Frag} {σ : L2.St} {H H' : Hp} {ta tb te tl : TE}
def EvD (K : PySem.W.Frag) (te : TE) (σ : L2.St) (H : Hp) (d : PyData) : Prop := ∀ H1, Ex H H1 → ∀ Q : VK, (∀ v H2, Ex H1 H2 → (∀ H3, Ex H2 H3 → Dp K H3 v d) → Q v H2) → te σ H1 Q
theorem ed_ev {v : V} {d : PyData} (h : Ev te σ H v) (hd : ∀ H1, Ex H H1 → Dp K H1 v d) : EvD K te σ H d := fun H1 e Q q => h H1 e _ fun H2 e2 => q v H2 e2 fun H3 e3 => hd H3 (e.trans (e2.trans e3))
theorem ed_tup2 {x : V} {dx d : PyData} (ha : Ev ta σ H x) (hx : ∀ G, Dp K G x dx) (hb : EvD K tb σ H d) : EvD K (tTup (tCons ta (tCons tb tNil))) σ H (.tuple [dx, d]) := fun H1 e Q q =>
  ha H1 e _ fun H2 e2 => hb H2 (e.trans e2) _ fun v H3 e3 hv => ⟨by show 2 ≤ sizeLine; decide, fun p np => q _ _ (e2.trans (e3.trans (Ex.new np))) fun H4 e4 => .tup (st_of (e4 _ _ upd_same)) (.cons (hx _) (.cons (hv H4 ((Ex.new np).trans e4)) .nil))⟩
theorem ev_eqD {d : PyData} (ha : EvD K ta σ H d) (hb : EvD K tb σ H d) (hs : SeqAt.shaped d = true) : Ev (tOp (rEqD K) ta tb) σ H (.bl true) := fun H1 e Q q =>
  ha H1 e _ fun v H2 e2 hv => hb H2 (e.trans e2) _ fun u H3 e3 hu => ⟨d, d, hv H3 e3, hu H3 (Ex.refl _), hs, hs, by rw [SeqAt.eqv_refl _ (SeqAt.canLay_of_shaped hs)]; exact q H3 (e2.trans e3)⟩
theorem ev_neD {d : PyData} (ha : EvD K ta σ H d) (hb : EvD K tb σ H d) (hs : SeqAt.shaped d = true) : Ev (tOp (rNeD K) ta tb) σ H (.bl false) := fun H1 e Q q =>
  ha H1 e _ fun v H2 e2 hv => hb H2 (e.trans e2) _ fun u H3 e3 hu => ⟨d, d, hv H3 e3, hu H3 (Ex.refl _), hs, hs, by rw [SeqAt.eqv_refl _ (SeqAt.canLay_of_shaped hs)]; exact q H3 (e2.trans e3)⟩
end
/-! books as data -/
def dBook (n : Nat) (rs : List (List Nat × List Nat)) : PyData := .tuple [.int (n : Nat), .tuple (rs.map dSS)]
theorem BookF.dp {K : PySem.W.Frag} {H : Hp} {v : V} {n : Nat} {rs : List (List Nat × List Nat)} (h : BookF K H v n rs) : Dp K H v (dBook n rs) := by
  obtain ⟨t, b, vs, rfl, c, d, p⟩ := h
  exact .tup (st_of c) (.cons (.int _) (.cons (.tup d.sq (Prs.dp p)) .nil))
theorem shaped_book {n : Nat} {rs : List (List Nat × List Nat)} (h : ∀ p ∈ rs, (∀ c ∈ p.1, c < 200) ∧ ∀ c ∈ p.2, c < 200) : SeqAt.shaped (dBook n rs) = true := by
  have a := (shaped_prs rs h).2
  unfold SeqAt.shaped at a ⊢
  rw [Bool.and_eq_true] at a ⊢
  obtain ⟨a1, a2⟩ := a
  have a2' := of_decide_eq_true a2
  have b2 : ∀ ps : List (List Nat × List Nat), PyData.depthAll (ps.map dSS) ≤ 4 := by
    intro ps
    induction ps with
    | nil => exact Nat.zero_le _
    | cons p ps ih =>
      show max (PyData.depth (dSS p)) (PyData.depthAll (ps.map dSS)) ≤ 4
      have : PyData.depth (dSS p) ≤ 4 := by simp [dSS, PyData.depth, PyData.depthAll]
      omega
  have b3 := b2 rs
  refine ⟨?_, decide_eq_true ?_⟩
  · show (PyData.canLayAll0 [.int (n : Nat), .tuple (rs.map dSS)]) = true
    show (PyData.canLay0 (.int (n : Nat)) && (PyData.canLay0 (.tuple (rs.map dSS)) && true)) = true
    rw [a1]
    rfl
  · simp only [dBook, PyData.depth, PyData.depthAll]
    omega
theorem BookOk.sub {n : Nat} {rs qs : List (List Nat × List Nat)} (h : BookOk n rs) (hl : qs.length ≤ 10) (hm : ∀ p ∈ qs, p ∈ rs) (hd : (qs.map (·.1)).Nodup) : BookOk n qs := ⟨h.hn, hl, fun p hp => h.hr p (hm p hp), fun p hp => h.hm p (hm p hp), hd⟩
theorem BookOk.perm {n : Nat} {rs qs : List (List Nat × List Nat)} (h : BookOk n rs) (p : qs.Perm rs) : BookOk n qs := h.sub (by rw [p.length_eq]; exact h.hl) (fun x hx => p.mem_iff.mp hx) ((p.map (·.1)).nodup_iff.mpr h.hd)
theorem BookOk.subl {n : Nat} {rs qs : List (List Nat × List Nat)} (h : BookOk n rs) (s : qs.Sublist rs) : BookOk n qs := h.sub (Nat.le_trans s.length_le h.hl) (fun x hx => s.subset hx) (h.hd.sublist (s.map _))
def NoN (K : PySem.W.Frag) (H : Hp) (t : Addr) (xs : List V) : Prop := H t = some (.tup xs) ∨ TupF H t xs
theorem NoN.sq {K : PySem.W.Frag} {H : Hp} {t : Addr} {xs : List V} (h : NoN K H t xs) : SqT K H t xs := h.elim st_of TupF.sq
theorem NoN.ty {K : PySem.W.Frag} {H : Hp} {t : Addr} {xs : List V} (h : NoN K H t xs) : TyX K H (.ref t) (.type "tuple") := h.elim (fun e => .base (.tup e)) fun ⟨o, _, c⟩ => .fTuple c
theorem NoN.ex {K : PySem.W.Frag} {H H' : Hp} {t : Addr} {xs : List V} (h : NoN K H t xs) (e : Ex H H') : NoN K H' t xs := h.elim (fun c => .inl (e _ _ c)) fun c => .inr (c.ex e)
end Hid

namespace Hid
open PySem PySem.Spec PyProof.Rows L2 Evl
/-! sorted of a tuple of whole numbers -/
section
variable {prog : Program} {w : World} {A : Around} {E : Value → Shared → Prop} {s : Shared}
theorem each_ints {R : Value → Int → Prop} (hR : ∀ v k, R v k → ∃ t, v = .int k t) : ∀ {out : List Value} {ks : List Int}, PySem.W.EachIs R out ks → Vals (ks.map V.int) out
  | _, _, .nil => .nil
  | _, _, .cons a t => .cons (hR _ _ a) (each_ints hR t)
theorem vals_ints : ∀ {ks : List Int} {us : List Value}, Vals (ks.map V.int) us → PySem.W.EachIs (fun v k => ∃ t, v = Value.int k t) us ks
  | [], _, .nil => .nil
  | _ :: _, _, .cons r rs => .cons r (vals_ints rs)
theorem sorted_tupI {l : Addr} {items : Array Value} {ks : List Int} {Q : Value → Shared → Prop} (ht : IsTup s.heap l items) (hi : Vals (ks.map V.int) items.toList) (hz : items.size ≤ 100000) (hu : A.units + 64 < cLine)
    (hQ : ∀ (h1 h' : Heap) (out : Array Value) (c : Nat), (∀ b o, s.heap.get? b = some o → h1.get? b = some o) → (∀ b o, h1.get? b = some o → h'.get? b = some o) → h'.get? h1.objs.size = some (seqObj "list" out c) → Vals ((ks.mergeSort fun a b => decide (a ≤ b)).map V.int) out.toList → Q (.ref h1.objs.size) { s with heap := h' }) :
    wpAny (model prog w) A (call (.builtin "sorted") [.ref l]) Q E s := by
  obtain ⟨o, ho, hc, n, hd⟩ := id ht
  refine Calls.call_function_entry kind_sorted plain_sorted entry_sorted (args_sorted1 _) ?_
  unfold Builtin.«sorted»
  have hsz : items.size ≤ sizeLine := Nat.le_trans hz (by decide)
  refine wpAny_bind (m := checkCount "sorted" 1 1 _) (wpAny_pure (wpAny_bind (wpAny_collect_seq (A := A.in1) l (.inr rfl) ho hc hd (fun h1 k1 => ?_) hsz)))
  have hlen : items.toList.length ≤ sizeLine := by rw [Array.length_toList]; exact hsz
  have ek := vals_ints hi
  have hkl : ks.length = items.toList.length := ek.length.symm
  refine wpAny_bind (wpAny_newList ?_ hlen)
  have hoL : (h1.push (seqObj "list" items.toList.toArray 0)).get? h1.objs.size = some (seqObj "list" items.toList.toArray 0) := Heap.get?_push_size _ rfl
  refine wpAny_bind (wpAny_holding ?_)
  refine PySem.W.list_sort_data (s := { s with heap := h1.push (seqObj "list" items.toList.toArray 0) }) (enc := fun k : Int => PyData.int k) hoL ek (each_mono2 (fun v k h => ?_) ek) ?_ ?_ (by rw [hkl]; exact hlen) (fun k _ => ?_) fun out hlo eo => ?_
  · obtain ⟨t, rfl⟩ := h
    exact ⟨[], .int k t, fun m => nomatch m⟩
  · exact PySem.W.AllAlike.of fun _ _ => by simp [PySem.W.alike]
  · exact PySem.W.Sortable.others fun _ => ⟨(fun z => nomatch z), (fun _ z => nomatch z)⟩
  · show A.in1.units + 1 + PyData.depth (.int k) < cLine
    have : PyData.depth (.int k) = 0 := by simp [PyData.depth]
    have h2 : A.in1.units = A.units + 1 := rfl
    omega
  · rw [PySem.W.dataLe_int (β := Int) (fun k => k)] at eo
    obtain ⟨c, hcc⟩ := sortedHeap_at (vs := items.toList) (out := out.toArray) hoL
    refine wpAny_pure ⟨_, rfl, hQ h1 _ out.toArray c k1 (fun b u q => ?_) hcc (by rw [List.toList_toArray]; exact each_ints (fun _ _ h => h) eo)⟩
    have hlt := Heap.lt_size q
    show (sortedHeap (h1.push (seqObj "list" items.toList.toArray 0)) h1.objs.size items.toList out.toArray).get? b = some u
    rw [sortedHeap_old (Nat.ne_of_lt hlt) (by rw [size_push']; exact Nat.lt_succ_of_lt hlt)]
    exact Heap.get?_push_of_some _ q
end
def rSortTI (K : PySem.W.Frag) : List V → Hp → VK → Prop := fun vs H Q => ∃ (a : Addr) (ks : List Int), vs = [.ref a] ∧ SqT K H a (ks.map V.int) ∧ ks.length ≤ 100000 ∧ ∀ p, H p = none → Q (.ref p) (upd H p (.lst ((ks.mergeSort fun a b => decide (a ≤ b)).map V.int)))
theorem cr_sortTI {X : Cx} (hu : X.A.units + 64 < cLine) : CallR X (.builtin "sorted") (rSortTI X.K) := by
  intro pins s σ H vs us Q I r h
  obtain ⟨a, ks, rfl, hs, hl, q⟩ := h
  obtain ⟨its, rv, ht, hz⟩ := I.tuple hs
  rw [Vals.ref1 r]
  refine sorted_tupI (ks := ks) ht (by rw [List.toList_toArray]; exact rv) (by rw [List.size_toArray, ← rv.length, List.length_map]; exact hl) hu fun h1 h' out c k1 k2 hget hst => ?_
  have I1 := I.kept (t' := s.toks) k1
  refine ⟨.ref h1.objs.size, _, I1.laid (t' := s.toks) (o := .lst ((ks.mergeSort fun a b => decide (a ≤ b)).map V.int)) k2 (Nat.le_refl _) ⟨?_, out.toList, c, hst, hget⟩, rfl, q _ (I1.hok.fresh (Nat.le_refl _))⟩
  rw [List.length_map, List.length_mergeSort]
  exact Nat.le_trans hl (by decide)
end Hid

namespace Hid
open PySem PySem.Spec PyProof.Rows L2 Evl
/-! sorted of tuples of texts and whole numbers, of one shape or more -/
abbrev Sc := Int ⊕ List Nat
def scV : Sc → V
  | .inl z => .int z
  | .inr l => .str (tx l)
def scD : Sc → PyData
  | .inl z => .int z
  | .inr l => .str (tx l)
/-- where they differ first both are of one kind -/
def Cmt : List Sc → List Sc → Prop
  | a :: l, b :: m => (a = b → Cmt l m) ∧ (a ≠ b → (∃ x y, a = .inl x ∧ b = .inl y) ∨ ∃ x y, a = .inr x ∧ b = .inr y)
  | _, _ => True
abbrev scLt (a b : List Sc) : Bool := lexLt itemOrd a b
def scSort (ds : List (List Sc)) : List (List Sc) := ds.mergeSort fun a b => !scLt b a
theorem scLt_asym {a b : List Sc} (h : scLt a b = true) : scLt b a = false := by
  cases z : scLt b a with
  | false => rfl
  | true =>
    have := lex_trans (O := itemOrd) a b a h z
    rw [lex_irrefl (O := itemOrd)] at this
    cases this
theorem scLt_tr {x y z : List Sc} (h1 : scLt y x = false) (h2 : scLt z y = false) : scLt z x = false := by
  cases c : scLt z x with
  | false => rfl
  | true =>
    rcases lex_negTrans (O := itemOrd) z y x c with k | k
    · rw [show lexLt itemOrd z y = false from h2] at k
      cases k
    · rw [show lexLt itemOrd y x = false from h1] at k
      cases k
theorem scSort_perm (ds : List (List Sc)) : (scSort ds).Perm ds := List.mergeSort_perm _ _
theorem scSort_le (ds : List (List Sc)) : (scSort ds).Pairwise fun a b => scLt b a = false := by
  have h := List.pairwise_mergeSort (le := fun a b : List Sc => !scLt b a) (fun a b c x y => by
    simp only [Bool.not_eq_true'] at *
    exact scLt_tr x y) (fun a b => by
    cases h1 : scLt b a with
    | false => rfl
    | true => rw [scLt_asym h1]; rfl) ds
  exact h.imp fun z => by simpa using z
theorem scSort_uniq {as ds : List (List Sc)} (hp : as.Perm ds) (hs : as.Pairwise fun a b => scLt b a = false) : as = scSort ds :=
  (hp.trans (scSort_perm ds).symm).eq_of_pairwise (fun a b _ _ x y => lex_total (O := itemOrd) a b y x) hs (scSort_le ds)
section
variable {prog : Program} {w : World} {A : Around} {E : Value → Shared → Prop} {s : Shared}
theorem sc_lex {b fin : Bool} {Q : Bool → Shared → Prop} : ∀ (as bs : List Sc) (ps qs : List Value) (i : Nat), Vals (as.map scV) ps → Vals (bs.map scV) qs → Cmt as bs → fin = decide (as.length < bs.length) → Q (scLt as bs) s → PySem.W.KatLex prog w A b fin Q (ps.zip qs) i s
  | [], [], _, _, i, .nil, .nil, _, hf, h => by
    subst hf
    exact h
  | [], _ :: _, _, _, i, .nil, .cons _ _, _, hf, h => by
    subst hf
    exact h
  | _ :: _, [], _, _, i, .cons _ _, .nil, _, hf, h => by
    subst hf
    exact h
  | a :: as, c :: bs, _, _, i, .cons rp r1, .cons rq r2, hc, hf, h => by
    have hf' : fin = decide (as.length < bs.length) := by
      rw [hf]
      simp only [List.length_cons, Nat.add_lt_add_iff_right]
    rcases a with x | x
    · rcases c with y | y
      · obtain ⟨t, rfl⟩ := rp
        obtain ⟨u, rfl⟩ := rq
        refine PySem.W.kat_cons (wpAny_eqBool_int (PySem.W.kat_go (fun e => PySem.W.kat_yes ?_) fun e => PySem.W.kat_no ?_))
        · have hxy : x = y := by simpa using e
          subst hxy
          rw [show scLt (Sum.inl x :: as) (Sum.inl x :: bs) = scLt as bs from lex_self (O := itemOrd) _ _ _] at h
          exact sc_lex as bs _ _ (i + 1) r1 r2 (hc.1 rfl) hf' h
        · have hxy : ¬ x = y := by simpa using e
          rw [show scLt (Sum.inl x :: as) (Sum.inl y :: bs) = decide (x < y) from lex_diff (O := itemOrd) fun z => hxy (Sum.inl.inj z)] at h
          exact oneLt_any_int h
      · rcases hc.2 (fun z => nomatch z) with ⟨_, _, _, z⟩ | ⟨_, _, z, _⟩ <;> cases z
    · rcases c with y | y
      · rcases hc.2 (fun z => nomatch z) with ⟨_, _, z, _⟩ | ⟨_, _, _, z⟩ <;> cases z
      · obtain ⟨t, rfl⟩ := rp
        obtain ⟨u, rfl⟩ := rq
        refine PySem.W.kat_cons (wpAny_eqBool_str (PySem.W.kat_go (fun e => PySem.W.kat_yes ?_) fun e => PySem.W.kat_no ?_))
        · have hxy : x = y := by
            have z := congrArg (fun q : Str => q.cps.toList) (of_decide_eq_true e)
            simpa [tx_toList] using z
          subst hxy
          rw [show scLt (Sum.inr x :: as) (Sum.inr x :: bs) = scLt as bs from lex_self (O := itemOrd) _ _ _] at h
          exact sc_lex as bs _ _ (i + 1) r1 r2 (hc.1 rfl) hf' h
        · have hxy : x ≠ y := fun z => of_decide_eq_false e (by rw [z])
          have e2 : scLt (Sum.inr x :: as) (Sum.inr y :: bs) = decide ((tx x).cps.toList < (tx y).cps.toList) := by
            rw [show scLt (Sum.inr x :: as) (Sum.inr y :: bs) = PyProof.Rows.strKind.blt x y from lex_diff (O := itemOrd) fun z => hxy (Sum.inr.inj z), tx_toList, tx_toList]
          rw [e2] at h
          exact oneLt_any_str h
def IsSc (h : Heap) (v : Value) (ds : List Sc) : Prop := ∃ a o xs n, v = .ref a ∧ h.get? a = some o ∧ o.cls = .type "tuple" ∧ o.data = .seq xs n ∧ Vals (ds.map scV) xs.toList
theorem sc_firsts {h : Heap} {k : Value → List Sc} : ∀ vs : List Value, (∀ v ∈ vs, IsSc h v (k v)) → (∀ v ∈ vs, ∃ x l, k v = .inr x :: l) → ∃ fs, PySem.W.KatTups h vs fs ∧ fs.length = vs.length ∧ ∀ f ∈ fs, ∃ x t, f = Value.str x t
  | [], _, _ => ⟨[], trivial, rfl, fun _ z => nomatch z⟩
  | v :: vs, hp, hf => by
    obtain ⟨fs, h1, h2, h3⟩ := sc_firsts vs (fun u hu => hp u (List.mem_cons_of_mem _ hu)) fun u hu => hf u (List.mem_cons_of_mem _ hu)
    obtain ⟨a, o, xs, n, rfl, ho, hc, hd, hv⟩ := hp v List.mem_cons_self
    obtain ⟨x, l, e⟩ := hf _ List.mem_cons_self
    rw [e] at hv
    obtain ⟨xs⟩ := xs
    cases hv with
    | cons r0 rs =>
      obtain ⟨t, rfl⟩ := r0
      refine ⟨.str (tx x) t :: fs, PySem.W.KatTups.cons ho hc hd (by simp) h1, by rw [List.length_cons, List.length_cons, h2], fun f hf' => ?_⟩
      rcases List.mem_cons.mp hf' with z | z
      · exact ⟨_, _, z⟩
      · exact h3 f z
theorem sc_cmp {vs : List Value} {k : Value → List Sc} (hp : ∀ v ∈ vs, IsSc s.heap v (k v)) (hc : ∀ v ∈ vs, ∀ u ∈ vs, Cmt (k v) (k u)) : SrtO.Cmp prog w A s (tuples' true) (fun p => p.1 ∈ vs) (SrtO.lt2 fun v u => scLt (k v) (k u)) := by
  intro p q hm hm'
  obtain ⟨a, o, xs, n, e1, ho, _, hd, hv⟩ := hp _ hm
  obtain ⟨a', o', ys, n', e2, ho', _, hd', hv'⟩ := hp _ hm'
  have hcc := hc _ hm _ hm'
  show wpAny (model prog w) A (keyLt' (tuples' true) p.1 q.1) (fun r s' => s' = s ∧ r = scLt (k p.1) (k q.1)) (fun _ _ => False) s
  generalize k p.1 = l at hv hcc
  generalize k q.1 = m at hv' hcc
  rw [e1, e2]
  refine PySem.W.kat_lt ho hd ho' hd' (sc_lex l m xs.toList ys.toList 0 hv hv' hcc ?_ ⟨rfl, rfl⟩)
  have z1 : l.length = xs.size := by have := hv.length; rw [List.length_map, Array.length_toList] at this; exact this
  have z2 : m.length = ys.size := by have := hv'.length; rw [List.length_map, Array.length_toList] at this; exact this
  rw [z1, z2]
theorem sc_swo (k : Value → List Sc) : SrtO.Swo fun v u => scLt (k v) (k u) := ⟨fun _ _ h => scLt_asym h, fun _ _ _ h1 h2 => scLt_tr h1 h2⟩
theorem sc_sortable {a : Addr} {vs : List Value} {k : Value → List Sc} (h0 : 0 < vs.length) (hp : ∀ v ∈ vs, IsSc s.heap v (k v)) (hf : ∀ v ∈ vs, ∃ x l, k v = .inr x :: l) (hc : ∀ v ∈ vs, ∀ u ∈ vs, Cmt (k v) (k u)) (ha : ∀ o, s.heap.get? a = some o → o.cls ≠ .type "tuple") :
    SrtO.SortableO prog w A s a vs fun v u => scLt (k v) (k u) := by
  intro h' keep
  have hp' : ∀ v ∈ vs, IsSc h' v (k v) := fun v hm => by
    obtain ⟨b, o, xs, n, e, ho, c, d, v'⟩ := hp v hm
    exact ⟨b, o, xs, n, e, keep b o (fun z => by subst z; exact ha o ho c) ho, c, d, v'⟩
  obtain ⟨fs, h1, h2, h3⟩ := sc_firsts vs hp' hf
  refine ⟨tuples' true, fun Q E hq => ?_, sc_cmp hp' hc⟩
  refine PySem.W.kat_kind (T := .type "str") h1 (by omega) (fun f hm => ?_) (by rfl) ?_
  · obtain ⟨x, t, rfl⟩ := h3 f hm
    exact PySem.W.Looks.now
  · rw [show (Value.type "str" != Value.type "tuple") = true by first | decide +kernel | rfl | decide]
    exact hq
end
/-- the tuple of these -/
def ScT (K : PySem.W.Frag) (H : Hp) (v : V) (d : List Sc) : Prop := ∃ t, v = .ref t ∧ H t = some (.tup (d.map scV))
theorem ScT.ex {K : PySem.W.Frag} {H H' : Hp} {v : V} {d : List Sc} (h : ScT K H v d) (e : Ex H H') : ScT K H' v d := let ⟨t, a, b⟩ := h; ⟨t, a, e _ _ b⟩
def scOf : V → Sc
  | .int z => .inl z
  | .str x => .inr x.cps.toList
  | _ => .inl 0
theorem scOf_V (c : Sc) : scOf (scV c) = c := by
  rcases c with z | l
  · rfl
  · show Sum.inr (tx l).cps.toList = _
    rw [tx_toList]
/-- what a value's tuple says, by H -/
def scAt (H : Hp) (u : Value) : List Sc := match u with
  | .ref t => (match H t with | some (.tup ws) => ws.map scOf | _ => [])
  | _ => []
theorem scAt_of {K : PySem.W.Frag} {H : Hp} {t : Addr} {d : List Sc} (h : H t = some (.tup (d.map scV))) : scAt H (.ref t) = d := by
  show (match H t with | some (.tup ws) => ws.map scOf | _ => []) = d
  rw [h]
  show (d.map scV).map scOf = d
  rw [List.map_map, show scOf ∘ scV = id from funext scOf_V, List.map_id]
def rSortSc (K : PySem.W.Frag) : List V → Hp → VK → Prop := fun vs H Q => ∃ (a : Addr) (xs : List V) (ds : List (List Sc)), vs = [V.ref a] ∧ SqL K H a xs ∧ Paired (ScT K H) xs ds ∧ (∀ d ∈ ds, ∃ x l, d = .inr x :: l) ∧ (∀ d ∈ ds, ∀ e ∈ ds, Cmt d e) ∧
  ∀ ys p, Paired (ScT K H) ys (scSort ds) → H p = none → Q (.ref p) (upd H p (.lst ys))
theorem sc_back {K : PySem.W.Frag} {H : Hp} : ∀ {xs : List V} {ds : List (List Sc)}, Paired (ScT K H) xs ds → ∀ {us : List Value}, Vals xs us → us.map (scAt H) = ds ∧ (∀ u ∈ us, ∃ t, u = Value.ref t ∧ H t = some (.tup ((scAt H u).map scV))) ∧ xs = us.map backV
  | _, _, .nil, _, .nil => ⟨rfl, (fun _ z => nomatch z), rfl⟩
  | _, _, .cons h t, _, .cons r rs => by
    obtain ⟨b, rfl, hb⟩ := h
    cases r
    obtain ⟨i1, i2, i3⟩ := sc_back t rs
    have e := scAt_of (K := K) hb
    refine ⟨?_, fun u hu => ?_, ?_⟩
    · show scAt H (.ref b) :: _ = _
      rw [e, i1]
    · rcases List.mem_cons.mp hu with z | z
      · rw [z, e]
        exact ⟨b, rfl, hb⟩
      · exact i2 u z
    · rw [List.map_cons, ← i3]
      rfl
theorem sc_forth {K : PySem.W.Frag} {H : Hp} : ∀ out : List Value, (∀ u ∈ out, ∃ t, u = Value.ref t ∧ H t = some (.tup ((scAt H u).map scV))) → Paired (ScT K H) (out.map backV) (out.map (scAt H)) ∧ Vals (out.map backV) out
  | [], _ => ⟨.nil, .nil⟩
  | u :: out, h => by
    obtain ⟨i1, i2⟩ := sc_forth (K := K) out fun v hv => h v (List.mem_cons_of_mem _ hv)
    obtain ⟨t, e, ht⟩ := h u List.mem_cons_self
    subst e
    exact ⟨.cons ⟨t, rfl, ht⟩ i1, .cons rfl i2⟩
theorem cr_sortSc {X : Cx} : CallR X (.builtin "sorted") (rSortSc X.K) := by
  intro pins s σ H vs us Q I r h
  obtain ⟨a, xs, ds, rfl, hs, hx, hf, hc, q⟩ := h
  obtain ⟨its, rv, hl, hz⟩ := I.list hs
  rw [Vals.ref1 r]
  obtain ⟨b1, b2, b3⟩ := sc_back hx rv
  have hmem : ∀ u ∈ its, scAt H u ∈ ds := fun u hu => by rw [← b1]; exact List.mem_map.mpr ⟨u, hu, rfl⟩
  have hp : ∀ v ∈ its, IsSc s.heap v (scAt H v) := fun v hv => by
    obtain ⟨t, e, ht⟩ := b2 v hv
    obtain ⟨_, its2, r2, o, ho, hcl, n, hd⟩ := I.hok _ _ ht
    exact ⟨t, o, its2.toArray, n, e, ho, hcl, hd, by rw [List.toList_toArray]; exact r2⟩
  refine SrtO.sorted_ord (sc_swo (scAt H)) hl.isList (by rw [← rv.length]; exact hz) (fun h2 h₁ a' ha kk => ?_) fun out hs1 hb => ?_
  · refine sc_sortable (s := { s with heap := h₁ }) (by omega) (fun v hm => ?_) (fun v hm => hf _ (hmem v hm)) (fun v hm u hu => hc _ (hmem v hm) _ (hmem u hu)) fun o e => ?_
    · obtain ⟨b, o, ys, n, e, ho, c, d, v'⟩ := hp v hm
      exact ⟨b, o, ys, n, e, (kk b o ho).2, c, d, v'⟩
    · have e' : some o = some (seqObj "list" its.toArray 0) := e.symm.trans ha
      cases e'
      intro c
      exact absurd (Value.type.inj c) (by decide)
  · obtain ⟨p1, p2⟩ := sc_forth (K := X.K) out fun u hu => b2 u (hb.perm.mem_iff.mp hu)
    obtain ⟨n, hn⟩ := sortedAll_at s.heap its out.toArray
    have hd : out.map (scAt H) = scSort ds := by
      refine scSort_uniq ?_ (List.pairwise_map.mpr hs1)
      rw [← b1]
      exact hb.perm.map _
    rw [hd] at p1
    refine ⟨.ref _, upd H (s.heap.objs.size + 1) (.lst (out.map backV)), I.laid (t' := s.toks) (fun _ _ => sortedAll_old) (Nat.le_succ _) ⟨?_, out, n, p2, hn⟩, rfl, q _ _ p1 (I.hok.fresh (Nat.le_succ _))⟩
    rw [List.length_map, hb.perm.length_eq, ← rv.length]
    exact hz
end Hid

namespace Hid
open PySem PySem.Spec PyProof.Rows L2 Evl
/-! sorted of a tuple of data -/
section
variable {prog : Program} {w : World} {A : Around} {E : Value → Shared → Prop} {s : Shared} {β : Type} {R : Value → β → Prop} {enc : β → PyData} {bs : List β}
theorem sorted_tupD {l : Addr} {items : Array Value} {Q : Value → Shared → Prop} (ht : IsTup s.heap l items) (e : PySem.W.EachIs R items.toList bs) (er : PySem.W.EachIs (fun v b => ∃ as, Reads s.heap v (enc b) as) items.toList bs) (hal : PySem.W.AllAlike (bs.map enc)) (hk : PySem.W.Sortable (bs.map enc)) (hz : items.size ≤ 100000) (hu : ∀ b, b ∈ bs → A.units + 2 + (enc b).depth < cLine)
    (hQ : ∀ (h1 h' : Heap) (out : List Value) (c : Nat), (∀ b o, s.heap.get? b = some o → h1.get? b = some o) → (∀ b o, h1.get? b = some o → h'.get? b = some o) → h'.get? h1.objs.size = some (seqObj "list" out.toArray c) → out.length = bs.length → PySem.W.EachIs R out (bs.mergeSort (PySem.W.dataLe false enc)) → Q (.ref h1.objs.size) { s with heap := h' }) :
    wpAny (model prog w) A (call (.builtin "sorted") [.ref l]) Q E s := by
  obtain ⟨o, ho, hc, n, hd⟩ := id ht
  refine Calls.call_function_entry kind_sorted plain_sorted entry_sorted (args_sorted1 _) ?_
  unfold Builtin.«sorted»
  have hsz : items.size ≤ sizeLine := Nat.le_trans hz (by decide)
  have hlen : items.toList.length ≤ sizeLine := by rw [Array.length_toList]; exact hsz
  refine wpAny_bind (m := checkCount "sorted" 1 1 _) (wpAny_pure (wpAny_bind (wpAny_collect_seq (A := A.in1) l (.inr rfl) ho hc hd (fun h1 k1 => wpAny_bind (wpAny_newList ?_ hlen)) hsz)))
  have hoL : (h1.push (seqObj "list" items.toList.toArray 0)).get? h1.objs.size = some (seqObj "list" items.toList.toArray 0) := Heap.get?_push_size _ rfl
  refine wpAny_bind (wpAny_holding ?_)
  have up : ∀ b u, s.heap.get? b = some u → (PySem.W.sortingHeap (h1.push (seqObj "list" items.toList.toArray 0)) h1.objs.size items.toList).get? b = some u := fun b u q => by
    have hlt := Heap.lt_size (k1 b u q)
    exact PySem.W.sortingHeap_old (Nat.ne_of_lt hlt) (Heap.get?_push_of_some _ (k1 b u q))
  have er2 : PySem.W.EachIs (fun v b => ∃ as, Reads (PySem.W.sortingHeap (h1.push (seqObj "list" items.toList.toArray 0)) h1.objs.size items.toList) v (enc b) as) items.toList bs := er.mono fun _ _ ⟨as, r⟩ => ⟨as, PyProof.Rows.Reads.keeps up r⟩
  refine wpAny_call_entry PySem.F.slot_list_sort ⟨_, hoL, rfl⟩ PySem.F.entry_list_sort (PySem.W.list_sort_vals (s := { s with heap := h1.push (seqObj "list" items.toList.toArray 0) }) (κ := PySem.W.dataKind (PySem.W.sortingHeap (h1.push (seqObj "list" items.toList.toArray 0)) h1.objs.size items.toList) (bs.map enc)) hoL
    (PySem.W.SortsAt.data (s := { s with heap := PySem.W.sortingHeap (h1.push (seqObj "list" items.toList.toArray 0)) h1.objs.size items.toList }) (PySem.W.each_map (R := fun v d => ∃ as, Reads (PySem.W.sortingHeap (h1.push (seqObj "list" items.toList.toArray 0)) h1.objs.size items.toList) v d as) enc er2) hal hk (PySem.W.bound_map fun b hb => ?_)) (by rw [Array.length_toList]; exact hsz) ⟨.none, rfl, ?_⟩) (args_list_sort _)
  · have h2 : A.in1.units = A.units + 1 := rfl
    have := hu b hb
    omega
  · obtain ⟨c, hcc⟩ := sortedHeap_at (vs := items.toList) (out := (PySem.W.sortVals (PySem.W.dataKind (PySem.W.sortingHeap (h1.push (seqObj "list" items.toList.toArray 0)) h1.objs.size items.toList) (bs.map enc)) false items.toList items.toList).toArray) hoL
    refine wpAny_pure ⟨_, rfl, hQ h1 _ _ c k1 (fun b u q => ?_) hcc (by rw [PySem.W.sortVals_length false rfl]; exact e.length) (PySem.W.sortVals_data false e er2 hal)⟩
    have hlt := Heap.lt_size q
    show (sortedHeap (h1.push (seqObj "list" items.toList.toArray 0)) h1.objs.size items.toList _).get? b = some u
    rw [sortedHeap_old (Nat.ne_of_lt hlt) (by rw [size_push']; exact Nat.lt_succ_of_lt hlt)]
    exact Heap.get?_push_of_some _ q
end
def rSortDT {β : Type} (K : PySem.W.Frag) (enc : β → PyData) : List V → Hp → VK → Prop := fun vs H Q => ∃ (a : Addr) (xs : List V) (bs : List β) (R : V → β → Prop), vs = [.ref a] ∧ SqT K H a xs ∧ Paired R xs bs ∧ xs.length ≤ 100000 ∧ (∀ v b, R v b → Dp K H v (enc b)) ∧
  PySem.W.AllAlike (bs.map enc) ∧ PySem.W.Sortable (bs.map enc) ∧ (∀ b ∈ bs, (enc b).depth ≤ 8) ∧ ∀ ys p, Paired R ys (bs.mergeSort (PySem.W.dataLe false enc)) → H p = none → Q (.ref p) (upd H p (.lst ys))
theorem cr_sortDT {X : Cx} {β : Type} {enc : β → PyData} (hu : X.A.units + 64 < cLine) : CallR X (.builtin "sorted") (rSortDT X.K enc) := by
  intro pins s σ H vs us Q I r h
  obtain ⟨a, xs, bs, R, rfl, hs, hp, hxl, hR, hal, hk, hd, q⟩ := h
  obtain ⟨its, rv, ht, hz⟩ := I.tuple hs
  rw [Vals.ref1 r]
  have e := each_of_paired rv hp
  have el : (its.toArray).toList = its := List.toList_toArray
  refine sorted_tupD (R := fun v b => ∃ x, RelV x v ∧ R x b) (bs := bs) (enc := enc) ht (by rw [el]; exact e) (by rw [el]; exact each_mono (fun v b ⟨x, r, d⟩ => Dp.reads I _ _ _ (hR _ _ d) r) e) hal hk (by rw [List.size_toArray, ← rv.length]; exact hxl) (fun b hb => ?_) fun h1 h' out c k1 k2 hget hol hst => ?_
  · have := hd b hb
    omega
  · have I1 := I.kept (t' := s.toks) k1
    obtain ⟨ys, y1, y2⟩ := paired_of_each hst
    refine ⟨.ref h1.objs.size, _, I1.laid (t' := s.toks) (o := .lst ys) k2 (Nat.le_refl _) ⟨?_, out, c, y1, hget⟩, rfl, q ys _ y2 (I1.hok.fresh (Nat.le_refl _))⟩
    have e1 := y1.length
    have e2 := paired_len hp
    have hsl : 100000 ≤ sizeLine := by decide
    omega
/-! xs.extend(t), t a tuple -/
def rExtT (K : PySem.W.Frag) : V → List V → Hp → VK → Prop := fun x vs H Q => ∃ l b xs zs, x = .ref l ∧ vs = [.ref b] ∧ H l = some (.lst xs) ∧ SqT K H b zs ∧ xs.length + zs.length ≤ sizeLine ∧ Q .non (upd H l (.lst (xs ++ zs)))
section
open PySem.AutoSeq1
set_option maxRecDepth 100000 in
theorem ext_tup (l b : Addr) (xs ys : Array Value) (n m : Nat) (dd : Option Addr) (sl : Array (Option Value)) (hs0 : ¬(!xs.isEmpty && Builtin.List.listTooLong (xs.size + ys.size)) = true) (hs1 : xs.size ≤ sizeLine) (hs2 : xs.size + ys.size ≤ sizeLine + 1) :
    Meets (Builtin.«list.extend» ⟨[.ref l, .ref b], []⟩) (fun _ R s => s.heap.get? l = some { cls := .type "list", dict := none, data := .seq xs n, slots := #[] } ∧ s.heap.get? b = some { cls := .type "tuple", dict := dd, data := .seq ys m, slots := sl } ∧
      R (.ok (.ret Value.none)) { s with heap := s.heap.update l (Obj.mapSeq fun x => x ++ ys), toks := s.toks }) :=
  .of_wp fun prog w A R s h => by
    obtain ⟨hp, g, d, tk, os⟩ := s; obtain ⟨hl, hb, h⟩ := h
    have f1 := AutoSeq1.idx_int; have f2 := AutoSeq1.sub_tuple_tuple; have f3 := AutoSeq1.sub_list_list
    have f4 := AutoSeq1.sub_tuple_list; have f5 := AutoSeq1.sub_list_tuple
    have hz' : (xs ++ ys).size ≤ sizeLine + 1 := by rw [Array.size_append]; exact hs2
    wp_walk using (wpAny_updateSeq hl rfl (hz := hs1) (_hz' := hz')), wpAny_loadPart' hl, wpAny_loadPart' hb
    exact ⟨_, rfl, h⟩
end
theorem mt_extendT {X : Cx} : MtM X "list.extend" (rExtT X.K) := by
  intro pins s σ H x vs v us Q I rx rv h
  obtain ⟨l, b, xs, zs, rfl, rfl, hH, hB, hz, q⟩ := h
  cases rx
  obtain ⟨u, rfl, ru⟩ := rv.one
  cases ru
  obtain ⟨z, its, n, r, hl, e⟩ := I.lstM hH
  obtain ⟨its2, r2, ⟨⟨tc, td, tda, tsl⟩, ho, hc, n2, hd⟩, hz2⟩ := I.tuple hB
  dsimp only at hc hd
  subst hc hd
  have hl2 := r2.length
  have hsz : its.toArray.size + its2.toArray.size ≤ sizeLine := by rw [List.size_toArray, List.size_toArray]; omega
  have hlong : ¬ (!its.toArray.isEmpty && Builtin.List.listTooLong (its.toArray.size + its2.toArray.size)) = true := by
    rw [notLongL hsz, Bool.and_false]; decide
  refine call_meets PySem.F.slot_list_extend ⟨_, e, rfl⟩ PySem.F.entry_list_extend (PySem.F.args_list_extend_2 _ _) (ext_tup l b its.toArray its2.toArray n n2 td tsl hlong (by rw [List.size_toArray]; omega) (by omega)) ⟨e, ho, ?_⟩
  refine ⟨.non, _, I.lset (its' := its ++ its2) hH e (by simp) (r.append r2) ?_, rfl, q⟩
  rw [List.length_append]; omega
/-! ties in the heap and as data -/
def encTi (p : Tp) : PyData := .tuple [.str (tx p.1), .str (tx p.2), .tuple ((unl p.1 p.2).map fun i : Nat => PyData.int (i : Int))]
def TiA (H : Hp) (v : V) (p : Tp) : Prop := ∃ t b, v = .ref t ∧ H t = some (.tup [.str (tx p.1), .str (tx p.2), .ref b]) ∧ H b = some (.tup ((unl p.1 p.2).map fun i : Nat => V.int (i : Int)))
abbrev Tis (H : Hp) (vs : List V) (ps : List Tp) : Prop := Paired (TiA H) vs ps
theorem nats_dp {K : PySem.W.Frag} {H : Hp} : ∀ l : List Nat, DpAll K H (l.map fun i : Nat => V.int (i : Int)) (l.map fun i : Nat => PyData.int (i : Int))
  | [] => .nil
  | n :: ns => .cons (.int n) (nats_dp ns)
theorem TiA.dp {K : PySem.W.Frag} {H : Hp} {v : V} {p : Tp} (h : TiA H v p) : Dp K H v (encTi p) := by
  obtain ⟨t, b, rfl, h1, h2⟩ := h
  exact .tup (st_of h1) (.cons (.str _) (.cons (.str _) (.cons (.tup (st_of h2) (nats_dp _)) .nil)))
theorem Tis.dp {K : PySem.W.Frag} {H : Hp} : ∀ {vs : List V} {ps : List Tp}, Tis H vs ps → DpAll K H vs (ps.map encTi)
  | _, _, .nil => .nil
  | _, _, .cons h t => .cons h.dp (Tis.dp t)
theorem dA_nats : ∀ a : List Nat, PyData.depthAll (a.map fun i : Nat => PyData.int (i : Int)) = 0
  | [] => by simp [PyData.depthAll]
  | x :: a => by rw [List.map_cons, PyData.depthAll, dA_nats a]; simp [PyData.depth]
theorem al_nats : ∀ a b : List Nat, PySem.W.alikeAll (a.map fun i : Nat => PyData.int (i : Int)) (b.map fun i : Nat => PyData.int (i : Int)) = true
  | [], _ => by simp [PySem.W.alikeAll]
  | _ :: _, [] => by simp [PySem.W.alikeAll]
  | x :: a, y :: b => by
    rw [List.map_cons, List.map_cons, PySem.W.alikeAll, al_nats a b]
    simp [PySem.W.alike]
theorem alike_ti (p q : Tp) : PySem.W.alike (encTi p) (encTi q) = true := by
  simp [encTi, PySem.W.alike, PySem.W.alikeAll, al_nats]
theorem depth_ti (p : Tp) : (encTi p).depth ≤ 8 := by
  simp [encTi, PyData.depth, PyData.depthAll, dA_nats]
theorem ti_lt {p q : Tp} (h : LtP p q) : scLt (PySem.W.keyToks (encTi p)) (PySem.W.keyToks (encTi q)) = true := by
  obtain ⟨a, b⟩ := p
  obtain ⟨c, d⟩ := q
  have ne : ∀ {u v : List Nat}, u < v → (Sum.inr u : Sc) ≠ Sum.inr v := fun h z => by
    rw [Sum.inr.inj z] at h
    exact List.lt_irrefl _ h
  have k : ∀ p : Tp, ∃ r, PySem.W.keyToks (encTi p) = Sum.inl 1 :: Sum.inr p.1 :: Sum.inl 1 :: Sum.inr p.2 :: r := fun p => by
    refine ⟨PySem.W.keyToksAll [.tuple ((unl p.1 p.2).map fun i : Nat => PyData.int (i : Int))], ?_⟩
    unfold encTi
    rw [PySem.W.keyToks, PySem.W.keyToksAll, PySem.W.keyToksAll]
    simp [PySem.W.keyToks, tx_toList, tx]
  obtain ⟨r, er⟩ := k (a, b)
  obtain ⟨t, et⟩ := k (c, d)
  rw [er, et]
  rw [show scLt (Sum.inl 1 :: Sum.inr a :: Sum.inl 1 :: Sum.inr b :: r) (Sum.inl 1 :: Sum.inr c :: Sum.inl 1 :: Sum.inr d :: t) = scLt (Sum.inr a :: Sum.inl 1 :: Sum.inr b :: r) (Sum.inr c :: Sum.inl 1 :: Sum.inr d :: t) from lex_self (O := itemOrd) _ _ _]
  rcases h with h | ⟨h1, h2⟩
  · rw [show scLt (Sum.inr a :: Sum.inl 1 :: Sum.inr b :: r) (Sum.inr c :: Sum.inl 1 :: Sum.inr d :: t) = PyProof.Rows.strKind.blt a c from lex_diff (O := itemOrd) (ne h)]
    exact decide_eq_true h
  · have h1' : a = c := h1
    subst h1'
    rw [show scLt (Sum.inr a :: Sum.inl 1 :: Sum.inr b :: r) (Sum.inr a :: Sum.inl 1 :: Sum.inr d :: t) = scLt (Sum.inl 1 :: Sum.inr b :: r) (Sum.inl 1 :: Sum.inr d :: t) from lex_self (O := itemOrd) _ _ _, show scLt (Sum.inl 1 :: Sum.inr b :: r) (Sum.inl 1 :: Sum.inr d :: t) = scLt (Sum.inr b :: r) (Sum.inr d :: t) from lex_self (O := itemOrd) _ _ _, show scLt (Sum.inr b :: r) (Sum.inr d :: t) = PyProof.Rows.strKind.blt b d from lex_diff (O := itemOrd) (ne h2)]
    exact decide_eq_true h2
theorem ti_sorted {ts : List Tp} (h : ts.Pairwise LtP) : ts.mergeSort (PySem.W.dataLe false encTi) = ts := List.mergeSort_of_pairwise (h.imp fun {a b} h => by
  show (!scLt (PySem.W.keyToks (encTi b)) (PySem.W.keyToks (encTi a))) = true
  rw [scLt_asym (ti_lt h)]
  rfl)
theorem cl_nats : ∀ ns : List Nat, PyData.canLayAll0 (ns.map fun i : Nat => PyData.int (i : Int)) = true
  | [] => rfl
  | n :: ns => by show (PyData.canLay0 (.int n) && PyData.canLayAll0 (ns.map fun i : Nat => PyData.int (i : Int))) = true; rw [cl_nats ns]; rfl
end Hid

namespace Hid
open PySem PySem.Spec PyProof.Rows L2 Evl
/-! ties sorted -/
theorem ltL_tri (a b : List Nat) : a < b ∨ a = b ∨ b < a := by
  by_cases h : a < b
  · exact .inl h
  · by_cases g : b < a
    · exact .inr (.inr g)
    · exact .inr (.inl (List.le_antisymm (List.not_lt.mp g) (List.not_lt.mp h)))
theorem ltP_tri (p q : Tp) : LtP p q ∨ p = q ∨ LtP q p := by
  obtain ⟨a, b⟩ := p
  obtain ⟨c, d⟩ := q
  rcases ltL_tri a c with h | h | h
  · exact .inl (.inl h)
  · subst h
    rcases ltL_tri b d with g | g | g
    · exact .inl (.inr ⟨rfl, g⟩)
    · subst g; exact .inr (.inl rfl)
    · exact .inr (.inr (.inr ⟨rfl, g⟩))
  · exact .inr (.inr (.inl h))
theorem ltP_trans {p q r : Tp} (h : LtP p q) (g : LtP q r) : LtP p r := by
  rcases h with h | ⟨h1, h2⟩ <;> rcases g with g | ⟨g1, g2⟩
  · exact .inl (List.lt_trans h g)
  · exact .inl (g1 ▸ h)
  · exact .inl (h1 ▸ g)
  · exact .inr ⟨h1.trans g1, List.lt_trans h2 g2⟩
theorem le_ti {p q : Tp} : PySem.W.dataLe false encTi p q = true ↔ LtP p q ∨ p = q := by
  show (!scLt (PySem.W.keyToks (encTi q)) (PySem.W.keyToks (encTi p))) = true ↔ _
  constructor
  · intro h
    rcases ltP_tri p q with g | g | g
    · exact .inl g
    · exact .inr g
    · rw [ti_lt g] at h; cases h
  · rintro (h | h)
    · rw [scLt_asym (ti_lt h)]; rfl
    · subst h
      cases g : scLt (PySem.W.keyToks (encTi p)) (PySem.W.keyToks (encTi p)) with
      | false => rfl
      | true => have := scLt_asym g; rw [g] at this; cases this
theorem ltP_asm {p q : Tp} (h : LtP p q) : ¬ LtP q p := fun g => ltP_ne (ltP_trans h g) rfl
theorem ti_sort_of {M ts : List Tp} (h : M.Perm ts) (hp : ts.Pairwise LtP) : M.mergeSort (PySem.W.dataLe false encTi) = ts := by
  have h1 : (M.mergeSort (PySem.W.dataLe false encTi)).Pairwise fun a b => PySem.W.dataLe false encTi a b = true := List.pairwise_mergeSort (fun a b c x y => by
      rw [le_ti] at *
      rcases x with x | x <;> rcases y with y | y
      · exact .inl (ltP_trans x y)
      · exact .inl (y ▸ x)
      · exact .inl (x ▸ y)
      · exact .inr (x.trans y)) (fun a b => by
      rw [Bool.or_eq_true, le_ti, le_ti]
      rcases ltP_tri a b with g | g | g
      · exact .inl (.inl g)
      · exact .inl (.inr g)
      · exact .inr (.inl g)) M
  refine ((List.mergeSort_perm M _).trans h).eq_of_pairwise (fun a b _ _ x y => ?_) h1 (hp.imp fun {a b} g => le_ti.mpr (.inl g))
  rw [le_ti] at x y
  rcases x with x | x
  · rcases y with y | y
    · exact absurd y (ltP_asm x)
    · exact y.symm
  · exact x
theorem pw_nodup {α : Type} {R : α → α → Prop} (hi : ∀ {a}, ¬ R a a) {l : List α} (h : l.Pairwise R) : l.Nodup := h.imp fun {a b} r e => by
  rw [e] at r
  exact hi r
theorem ltP_irr {p : Tp} : ¬ LtP p p := fun h => ltP_ne h rfl
/-! sets of half-rows that show the same pairs -/
def ShE (S S' : List (List Nat)) (n : Nat) : Prop := ∀ i j u v, i < n → j < n → (Sh S i j u v ↔ Sh S' i j u v)
theorem ShE.symm {S S' : List (List Nat)} {n : Nat} (h : ShE S S' n) : ShE S' S n := fun i j u v a b => (h i j u v a b).symm
theorem she_kn {S S' : List (List Nat)} {n : Nat} (h : ShE S S' n) {k : List Nat} : Kn S n k ↔ Kn S' n k := and_congr_right fun _ => forall_congr' fun i => forall_congr' fun j => forall_congr' fun hi => forall_congr' fun hj => h i j _ _ hi hj
theorem sp_sh {S : List (List Nat)} {i j : Nat} : SpE S i j ↔ ∀ u v u' v', Sh S i j u v → Sh S i j u' v' → (u = u' ↔ v = v') := by
  constructor
  · rintro h u v u' v' ⟨x, hx, rfl, rfl⟩ ⟨y, hy, rfl, rfl⟩
    exact h x hx y hy
  · intro h x hx y hy
    exact h _ _ _ _ ⟨x, hx, rfl, rfl⟩ ⟨y, hy, rfl, rfl⟩
theorem she_sp {S S' : List (List Nat)} {n : Nat} (h : ShE S S' n) {i j : Nat} (hi : i < n) (hj : j < n) : SpE S i j ↔ SpE S' i j := by
  rw [sp_sh, sp_sh]
  exact forall_congr' fun u => forall_congr' fun v => forall_congr' fun u' => forall_congr' fun v' => by rw [h i j u v hi hj, h i j u' v' hi hj]
theorem she_tie {S S' : List (List Nat)} {n : Nat} (h : ShE S S' n) {a b : List Nat} {i : Nat} : Tie S n a b i ↔ Tie S' n a b i := by
  unfold Tie
  rw [she_kn h, she_kn h]
  exact and_congr_right fun _ => and_congr_right fun _ => and_congr_right fun hi => forall_congr' fun j => forall_congr' fun hj => by rw [she_sp h hi hj]
theorem she_hs {S S' : List (List Nat)} {n : Nat} (h : ShE S S' n) (hs : HS S n) (h0 : S' ≠ []) (hh : ∀ x ∈ S', HalfN n x) : HS S' n := ⟨h0, hh, fun i j hi hj hij => by
  obtain ⟨u, v, a, b, c⟩ := hs.nc i j hi hj hij
  exact ⟨u, v, a, b, fun z => c ((h i j u v hi hj).mpr z)⟩⟩
/-- more half-rows, all of them knots -/
theorem she_mid {S S' : List (List Nat)} {n : Nat} (h1 : ∀ x ∈ S, x ∈ S') (h2 : ∀ x ∈ S', Kn S n x) : ShE S S' n := fun i j u v hi hj => ⟨fun ⟨x, hx, a, b⟩ => ⟨x, h1 x hx, a, b⟩, fun ⟨x, hx, a, b⟩ => by
  obtain ⟨y, hy, c, d⟩ := (h2 x hx).2 i j hi hj
  exact ⟨y, hy, c.trans a, d.trans b⟩⟩
/-- fewer half-rows -/
theorem kn_less {S S' : List (List Nat)} {n : Nat} (h : ∀ x ∈ S', x ∈ S) {k : List Nat} (hk : Kn S' n k) : Kn S n k := ⟨hk.1, fun i j hi hj => let ⟨x, hx, a⟩ := hk.2 i j hi hj; ⟨x, h x hx, a⟩⟩
theorem hs_less {S S' : List (List Nat)} {n : Nat} (hs : HS S n) (h : ∀ x ∈ S', x ∈ S) (h0 : S' ≠ []) : HS S' n := ⟨h0, fun x hx => hs.hh x (h x hx), fun i j hi hj hij => by
  obtain ⟨u, v, a, b, c⟩ := hs.nc i j hi hj hij
  exact ⟨u, v, a, b, fun ⟨x, hx, e⟩ => c ⟨x, h x hx, e⟩⟩⟩
/-! how many -/
theorem sum_swap {α β : Type} (r : α → β → Bool) : ∀ (K : List α) (T : List β), (K.map fun k => (T.filter (r k)).length).sum = (T.map fun p => (K.filter fun k => r k p).length).sum
  | [], T => by
    simp only [List.map_nil, List.sum_nil, List.filter_nil, List.length_nil]
    induction T with
    | nil => rfl
    | cons a T ih => rw [List.map_cons, List.sum_cons, ← ih]; rfl
  | k :: K, T => by
    rw [List.map_cons, List.sum_cons, sum_swap r K T]
    induction T with
    | nil => rfl
    | cons p T ih =>
      rw [List.map_cons, List.sum_cons, List.map_cons, List.sum_cons, ← ih, List.filter_cons, List.filter_cons]
      cases r k p <;> simp <;> omega
theorem sum_ge {α : Type} {f g : α → Nat} : ∀ {l : List α}, (∀ x ∈ l, g x ≤ f x) → (l.map g).sum ≤ (l.map f).sum
  | [], _ => Nat.le_refl _
  | a :: l, h => by
    rw [List.map_cons, List.map_cons, List.sum_cons, List.sum_cons]
    exact Nat.add_le_add (h a List.mem_cons_self) (sum_ge fun x hx => h x (List.mem_cons_of_mem _ hx))
theorem sum_const {α : Type} (c : Nat) : ∀ l : List α, (l.map fun _ => c).sum = l.length * c
  | [] => by simp
  | a :: l => by rw [List.map_cons, List.sum_cons, sum_const c l, List.length_cons, Nat.add_mul]; omega
theorem sum_if {α : Type} (p : α → Bool) : ∀ l : List α, (l.map fun k => if p k = true then 3 else 1).sum = l.length + 2 * (l.filter p).length
  | [] => rfl
  | a :: l => by
    rw [List.map_cons, List.sum_cons, sum_if p l, List.filter_cons, List.length_cons]
    cases p a <;> simp <;> omega
theorem filt_split {α : Type} (p : α → Bool) : ∀ l : List α, l.length = (l.filter p).length + (l.filter fun x => !p x).length
  | [] => rfl
  | a :: l => by
    rw [List.length_cons, List.filter_cons, List.filter_cons, filt_split p l]
    cases p a <;> simp <;> omega
theorem two_ends {K : List (List Nat)} (hd : K.Nodup) {a b : List Nat} (ha : a ∈ K) (hb : b ∈ K) (hab : a ≠ b) : (K.filter fun k => decide (k = a ∨ k = b)).length = 2 := by
  have h : (K.filter fun k => decide (k = a ∨ k = b)).Perm [a, b] := (List.perm_ext_iff_of_nodup (hd.filter _) (by simp [hab])).mpr fun x => by
    rw [List.mem_filter]
    constructor
    · intro h
      have := of_decide_eq_true h.2
      simpa using this
    · intro h
      have h' : x = a ∨ x = b := by simpa using h
      refine ⟨?_, decide_eq_true h'⟩
      rcases h' with e | e <;> rw [e] <;> assumption
  rw [h.length_eq]
  rfl
section
variable {S : List (List Nat)} {n : Nat} {h0 : List Nat}
theorem deg_sum (hs : HS S n) (h0m : h0 ∈ S) : ((knL S n).map fun k => ((tiL S h0 (knL S n)).filter fun p => decide (k = p.1 ∨ k = p.2)).length).sum = (tiL S h0 (knL S n)).length * 2 := by
  rw [sum_swap (fun k (p : Tp) => decide (k = p.1 ∨ k = p.2)), ← sum_const 2 (tiL S h0 (knL S n))]
  refine congrArg List.sum (List.map_congr_left fun p hp => ?_)
  obtain ⟨hl, i, ht⟩ := (tiL_mem hs h0m).mp hp
  exact two_ends (knL_nodup S n) (knL_iff.mpr ht.1) (knL_iff.mpr ht.2.1) fun e => by rw [e] at hl; exact List.lt_irrefl _ hl
theorem one_le (hs : HS S n) (h0m : h0 ∈ S) (h2 : 2 ≤ (knL S n).length) {k : List Nat} (hk : Kn S n k) : 1 ≤ ((tiL S h0 (knL S n)).filter fun p => decide (k = p.1 ∨ k = p.2)).length := by
  obtain ⟨b, hb, hne⟩ : ∃ b ∈ knL S n, b ≠ k := by
    apply Classical.byContradiction
    intro z
    have : (knL S n).length ≤ [k].length := nd_len (knL_nodup S n) fun x hx => List.mem_singleton.mpr (Classical.byContradiction fun y => z ⟨x, hx, y⟩)
    simp only [List.length_singleton] at this
    omega
  obtain ⟨c, d, i, ht, fc, fd⟩ := tie_out hs (F := fun x => x = k) hk (knL_iff.mp hb) rfl hne
  refine List.length_pos_iff.mpr (List.ne_nil_of_mem (a := if c < d then (c, d) else (d, c)) (List.mem_filter.mpr ⟨?_, ?_⟩))
  · by_cases l : c < d
    · rw [if_pos l]; exact (tiL_mem hs h0m).mpr ⟨l, i, ht⟩
    · rw [if_neg l]; exact (tiL_mem hs h0m).mpr ⟨(tie_le ht).resolve_left l, i, ht.symm⟩
  · by_cases l : c < d
    · rw [if_pos l]; exact decide_eq_true (.inl fc.symm)
    · rw [if_neg l]; exact decide_eq_true (.inr fc.symm)
theorem untold_le (hs : HS S n) (h0m : h0 ∈ S) {Sd : List (List Nat)} (hd : Sd.Nodup) (hm : ∀ x, x ∈ Sd ↔ x ∈ S) : (knL S n).length ≤ Sd.length + (Sd.length - 2) ∧ Sd.length ≤ (knL S n).length := by
  have e1 := deg_sum hs h0m
  have e2 := tiL_len hs h0m
  have hle : Sd.length ≤ (knL S n).length := nd_len hd fun x hx => knL_iff.mpr (kn_of hs ((hm x).mp hx))
  refine ⟨?_, hle⟩
  have sp : (knL S n).length = Sd.length + ((knL S n).filter fun k => !decide (k ∈ S)).length := by
    have p1 : ((knL S n).filter fun k => decide (k ∈ S)).Perm Sd := (List.perm_ext_iff_of_nodup ((knL_nodup S n).filter _) hd).mpr fun x => by
      rw [List.mem_filter, hm]
      exact ⟨fun z => of_decide_eq_true z.2, fun z => ⟨knL_iff.mpr (kn_of hs z), decide_eq_true z⟩⟩
    have := filt_split (fun k => decide (k ∈ S)) (knL S n)
    rw [this, p1.length_eq]
  rcases Nat.eq_zero_or_pos ((knL S n).filter fun k => !decide (k ∈ S)).length with z | z
  · omega
  · obtain ⟨k, hk⟩ := List.exists_mem_of_length_pos z
    obtain ⟨hk1, hk2⟩ := List.mem_filter.mp hk
    have hno : k ∉ S := by simpa using hk2
    have h3 := three_le hs h0m (knL_iff.mp hk1) hno
    have h4 := List.length_filter_le (fun p : Tp => decide (k = p.1 ∨ k = p.2)) (tiL S h0 (knL S n))
    have hg := sum_ge (l := knL S n) (f := fun k => ((tiL S h0 (knL S n)).filter fun p => decide (k = p.1 ∨ k = p.2)).length) (g := fun k => if (!decide (k ∈ S)) = true then 3 else 1) fun k hk => by
      show (if (!decide (k ∈ S)) = true then 3 else 1) ≤ _
      split
      · rename_i c
        exact three_le hs h0m (knL_iff.mp hk) (by simpa using c)
      · exact one_le hs h0m (by omega) (knL_iff.mp hk)
    rw [e1, sum_if] at hg
    omega
theorem used_nodup (hs : HS S n) (h0m : h0 ∈ S) : ((tiL S h0 (knL S n)).flatMap fun p => unl p.1 p.2).Nodup := (used_perm hs h0m).nodup_iff.mpr (List.nodup_range.filter _)
theorem ties_le (hs : HS S n) (h0m : h0 ∈ S) : (knL S n).length ≤ n + 1 := by
  have e2 := tiL_len hs h0m
  have e3 := (used_perm hs h0m).length_eq
  have e4 := List.length_filter_le (fun i => S.any fun h => decide (aT h i ≠ aT h0 i)) (List.range n)
  rw [List.length_range] at e4
  have e5 : (tiL S h0 (knL S n)).length ≤ ((tiL S h0 (knL S n)).flatMap fun p => unl p.1 p.2).length := by
    rw [List.length_flatMap]
    have := sum_ge (l := tiL S h0 (knL S n)) (f := fun p => (unl p.1 p.2).length) (g := fun _ => 1) fun p hp => by
      obtain ⟨hl, i, ht⟩ := (tiL_mem hs h0m).mp hp
      exact List.length_pos_iff.mpr (List.ne_nil_of_mem ((unl_mem ht.1.1.1).mpr ⟨ht.2.2.1, ht.ne⟩))
    rw [sum_const] at this
    omega
  omega
end
end Hid

namespace Hid
open PySem PySem.Spec PyProof.Rows L2 Evl
/-! half-rows carried: the places in another order, the signs of some turned -/
def tg (b : Bool) (c : Nat) : Nat := if b = true then tn c else c
theorem tn_tn {c : Nat} (h : NY c) : tn (tn c) = c := by rcases h with h | h <;> rw [h] <;> rfl
theorem tg_tg {b : Bool} {c : Nat} (h : NY c) : tg b (tg b c) = c := by
  cases b
  · rfl
  · exact tn_tn h
theorem tg_ny {b : Bool} {c : Nat} (h : NY c) : NY (tg b c) := by
  cases b
  · exact h
  · exact tn_ny
theorem tg_inj {b : Bool} {c d : Nat} (hc : NY c) (hd : NY d) : tg b c = tg b d ↔ c = d := ⟨fun h => by rw [← tg_tg (b := b) hc, h, tg_tg hd], fun h => by rw [h]⟩
def cry (n : Nat) (o : Nat → Nat) (g : Nat → Bool) (h : List Nat) : List Nat := (List.range n).map fun i => tg (g i) (aT h (o i))
structure Pm (n : Nat) (o p : Nat → Nat) : Prop where
  ho : ∀ i, i < n → o i < n
  hp : ∀ i, i < n → p i < n
  op : ∀ i, i < n → o (p i) = i
  po : ∀ i, i < n → p (o i) = i
def od (p : Tp) : Tp := if p.1 < p.2 then p else (p.2, p.1)
section
variable {S : List (List Nat)} {n : Nat} {o p : Nat → Nat} {g : Nat → Bool} {h0 h0' : List Nat}
theorem cry_at {h : List Nat} {i : Nat} (hi : i < n) : aT (cry n o g h) i = tg (g i) (aT h (o i)) := by
  unfold cry
  unfold aT
  rw [List.getD_eq_getElem?_getD, List.getElem?_map, List.getElem?_range hi]
  rfl
theorem cry_len {h : List Nat} : (cry n o g h).length = n := by simp [cry]
theorem cry_half (pm : Pm n o p) {h : List Nat} (hh : HalfN n h) : HalfN n (cry n o g h) := ⟨cry_len, fun c hc => by
  unfold cry at hc
  obtain ⟨i, hi, rfl⟩ := List.mem_map.mp hc
  exact tg_ny (aT_ny hh (pm.ho i (List.mem_range.mp hi)))⟩
theorem cry_eq (pm : Pm n o p) {a b : List Nat} (ha : HalfN n a) (hb : HalfN n b) {i : Nat} (hi : i < n) : aT (cry n o g a) i = aT (cry n o g b) i ↔ aT a (o i) = aT b (o i) := by
  rw [cry_at hi, cry_at hi]
  exact tg_inj (aT_ny ha (pm.ho i hi)) (aT_ny hb (pm.ho i hi))
theorem cry_inj (pm : Pm n o p) {a b : List Nat} (ha : HalfN n a) (hb : HalfN n b) (h : cry n o g a = cry n o g b) : a = b := half_ext ha hb fun i hi => by
  have := (cry_eq (g := g) pm ha hb (pm.hp i hi)).mp (by rw [h])
  rwa [pm.op i hi] at this
theorem cry_sur (pm : Pm n o p) {k : List Nat} (hk : HalfN n k) : ∃ h, HalfN n h ∧ cry n o g h = k := by
  refine ⟨(List.range n).map fun i => tg (g (p i)) (aT k (p i)), ⟨by simp, fun c hc => ?_⟩, ?_⟩
  · obtain ⟨i, hi, rfl⟩ := List.mem_map.mp hc
    exact tg_ny (aT_ny hk (pm.hp i (List.mem_range.mp hi)))
  · have e : ∀ i, i < n → aT ((List.range n).map fun i => tg (g (p i)) (aT k (p i))) i = tg (g (p i)) (aT k (p i)) := fun i hi => by
      unfold aT
      rw [List.getD_eq_getElem?_getD, List.getElem?_map, List.getElem?_range hi]
      rfl
    have hh : HalfN n (cry n o g ((List.range n).map fun i => tg (g (p i)) (aT k (p i)))) := cry_half pm ⟨by simp, fun c hc => by
      obtain ⟨i, hi, rfl⟩ := List.mem_map.mp hc
      exact tg_ny (aT_ny hk (pm.hp i (List.mem_range.mp hi)))⟩
    refine half_ext hh hk fun i hi => ?_
    rw [cry_at hi, e _ (pm.ho i hi), pm.po i hi]
    exact tg_tg (aT_ny hk hi)
theorem sh_cry (pm : Pm n o p) (hS : ∀ x ∈ S, HalfN n x) {i j u v : Nat} (hi : i < n) (hj : j < n) (hu : NY u) (hv : NY v) : Sh (S.map (cry n o g)) i j (tg (g i) u) (tg (g j) v) ↔ Sh S (o i) (o j) u v := by
  constructor
  · rintro ⟨x, hx, a, b⟩
    obtain ⟨h, hh, rfl⟩ := List.mem_map.mp hx
    rw [cry_at hi] at a
    rw [cry_at hj] at b
    exact ⟨h, hh, (tg_inj (aT_ny (hS h hh) (pm.ho i hi)) hu).mp a, (tg_inj (aT_ny (hS h hh) (pm.ho j hj)) hv).mp b⟩
  · rintro ⟨h, hh, a, b⟩
    exact ⟨cry n o g h, List.mem_map.mpr ⟨h, hh, rfl⟩, by rw [cry_at hi, a], by rw [cry_at hj, b]⟩
theorem kn_cry (pm : Pm n o p) (hS : ∀ x ∈ S, HalfN n x) {k : List Nat} (hk : HalfN n k) : Kn (S.map (cry n o g)) n (cry n o g k) ↔ Kn S n k := by
  constructor
  · intro h
    refine ⟨hk, fun i j hi hj => ?_⟩
    have := h.2 (p i) (p j) (pm.hp i hi) (pm.hp j hj)
    rw [cry_at (pm.hp i hi), cry_at (pm.hp j hj), pm.op i hi, pm.op j hj, sh_cry pm hS (pm.hp i hi) (pm.hp j hj) (aT_ny hk hi) (aT_ny hk hj), pm.op i hi, pm.op j hj] at this
    exact this
  · intro h
    refine ⟨cry_half pm hk, fun i j hi hj => ?_⟩
    rw [cry_at hi, cry_at hj, sh_cry pm hS hi hj (aT_ny hk (pm.ho i hi)) (aT_ny hk (pm.ho j hj))]
    exact h.2 _ _ (pm.ho i hi) (pm.ho j hj)
theorem sp_cry (pm : Pm n o p) (hS : ∀ x ∈ S, HalfN n x) {i j : Nat} (hi : i < n) (hj : j < n) : SpE (S.map (cry n o g)) i j ↔ SpE S (o i) (o j) := by
  constructor
  · intro h a ha b hb
    have := h _ (List.mem_map.mpr ⟨a, ha, rfl⟩) _ (List.mem_map.mpr ⟨b, hb, rfl⟩)
    rwa [cry_eq pm (hS a ha) (hS b hb) hi, cry_eq pm (hS a ha) (hS b hb) hj] at this
  · intro h x hx y hy
    obtain ⟨a, ha, rfl⟩ := List.mem_map.mp hx
    obtain ⟨b, hb, rfl⟩ := List.mem_map.mp hy
    rw [cry_eq pm (hS a ha) (hS b hb) hi, cry_eq pm (hS a ha) (hS b hb) hj]
    exact h a ha b hb
theorem hs_cry (pm : Pm n o p) (hs : HS S n) : HS (S.map (cry n o g)) n := ⟨fun z => hs.ne (List.map_eq_nil_iff.mp z), (fun x hx => by
  obtain ⟨h, hh, rfl⟩ := List.mem_map.mp hx
  exact cry_half pm (hs.hh h hh)), (fun i j hi hj hij => by
  obtain ⟨u, v, a, b, c⟩ := hs.nc (o i) (o j) (pm.ho i hi) (pm.ho j hj) fun e => hij (by rw [← pm.po i hi, e, pm.po j hj])
  exact ⟨tg (g i) u, tg (g j) v, tg_ny a, tg_ny b, fun z => c ((sh_cry pm hs.hh hi hj a b).mp z)⟩)⟩
theorem tie_cry (pm : Pm n o p) (hs : HS S n) {a b : List Nat} {i : Nat} (h : Tie S n a b i) : Tie (S.map (cry n o g)) n (cry n o g a) (cry n o g b) (p i) :=
  ⟨(kn_cry pm hs.hh h.1.1).mpr h.1, (kn_cry pm hs.hh h.2.1.1).mpr h.2.1, pm.hp i h.2.2.1, fun j hj => by
    rw [ne_eq, cry_eq pm h.1.1 h.2.1.1 hj, sp_cry pm hs.hh (pm.hp i h.2.2.1) hj, pm.op i h.2.2.1]
    exact h.2.2.2 (o j) (pm.ho j hj)⟩
theorem tie_unc (pm : Pm n o p) (hs : HS S n) {x y : List Nat} {i : Nat} (h : Tie (S.map (cry n o g)) n x y i) : ∃ a b, x = cry n o g a ∧ y = cry n o g b ∧ Tie S n a b (o i) := by
  obtain ⟨a, ha, rfl⟩ := cry_sur (o := o) (g := g) pm h.1.1
  obtain ⟨b, hb, rfl⟩ := cry_sur (o := o) (g := g) pm h.2.1.1
  refine ⟨a, b, rfl, rfl, (kn_cry pm hs.hh ha).mp h.1, (kn_cry pm hs.hh hb).mp h.2.1, pm.ho i h.2.2.1, fun j hj => ?_⟩
  have := h.2.2.2 (p j) (pm.hp j hj)
  rw [ne_eq, cry_eq pm ha hb (pm.hp j hj), sp_cry pm hs.hh h.2.2.1 (pm.hp j hj), pm.op j hj] at this
  exact this
theorem knL_cry (pm : Pm n o p) (hs : HS S n) : ((knL S n).map (cry n o g)).Perm (knL (S.map (cry n o g)) n) := by
  refine (List.perm_ext_iff_of_nodup ?_ (knL_nodup _ n)).mpr fun x => ?_
  · exact List.pairwise_map.mpr ((knL_nodup S n).imp_of_mem fun {a b} ha hb hne e => hne (cry_inj pm (knL_iff.mp ha).1 (knL_iff.mp hb).1 e))
  · rw [knL_iff, List.mem_map]
    constructor
    · rintro ⟨k, hk, rfl⟩
      exact (kn_cry pm hs.hh (knL_iff.mp hk).1).mpr (knL_iff.mp hk)
    · intro h
      obtain ⟨k, hk, rfl⟩ := cry_sur (o := o) (g := g) pm h.1
      exact ⟨k, knL_iff.mpr ((kn_cry pm hs.hh hk).mp h), rfl⟩
theorem lt_asy {a b : List Nat} (h : a < b) : ¬ b < a := fun z => List.lt_irrefl _ (List.lt_trans h z)
theorem od_lt {q : Tp} (h : q.1 ≠ q.2) : (od q).1 < (od q).2 := by
  unfold od
  split
  · assumption
  · rename_i c
    rcases ltL_tri q.1 q.2 with z | z | z
    · exact absurd z c
    · exact absurd z h
    · exact z
theorem od_mem {q : Tp} : od q = q ∨ od q = (q.2, q.1) := by
  unfold od
  split
  · exact .inl rfl
  · exact .inr rfl
theorem tiL_cry (pm : Pm n o p) (hs : HS S n) (h0m : h0 ∈ S) (h0m' : h0' ∈ S.map (cry n o g)) : ((tiL S h0 (knL S n)).map fun q => od (cry n o g q.1, cry n o g q.2)).Perm (tiL (S.map (cry n o g)) h0' (knL (S.map (cry n o g)) n)) := by
  have hs' := hs_cry (g := g) pm hs
  refine (List.perm_ext_iff_of_nodup ?_ (tiL_nodup _ _ (knL_pw _ n))).mpr fun x => ?_
  · refine List.pairwise_map.mpr ((tiL_nodup S h0 (knL_pw S n)).imp_of_mem fun {a b} ha hb hne e => hne ?_)
    obtain ⟨la, ia, ta⟩ := (tiL_mem hs h0m).mp ha
    obtain ⟨lb, ib, tb⟩ := (tiL_mem hs h0m).mp hb
    have c : ∀ {x y}, Kn S n x → Kn S n y → cry n o g x = cry n o g y → x = y := fun hx hy e => cry_inj pm hx.1 hy.1 e
    obtain ⟨a1, a2⟩ := a
    obtain ⟨b1, b2⟩ := b
    rcases od_mem (q := (cry n o g a1, cry n o g a2)) with e1 | e1 <;> rcases od_mem (q := (cry n o g b1, cry n o g b2)) with e2 | e2 <;> rw [e1, e2] at e
    · exact Prod.ext (c ta.1 tb.1 (Prod.mk.inj e).1) (c ta.2.1 tb.2.1 (Prod.mk.inj e).2)
    · have x1 := c ta.1 tb.2.1 (Prod.mk.inj e).1
      have x2 := c ta.2.1 tb.1 (Prod.mk.inj e).2
      rw [x1, x2] at la
      exact absurd la (lt_asy lb)
    · have x1 := c ta.2.1 tb.1 (Prod.mk.inj e).1
      have x2 := c ta.1 tb.2.1 (Prod.mk.inj e).2
      rw [x1, x2] at la
      exact absurd la (lt_asy lb)
    · exact Prod.ext (c ta.1 tb.1 (Prod.mk.inj e).2) (c ta.2.1 tb.2.1 (Prod.mk.inj e).1)
  · rw [tiL_mem hs' h0m', List.mem_map]
    constructor
    · rintro ⟨q, hq, rfl⟩
      obtain ⟨lq, i, t⟩ := (tiL_mem hs h0m).mp hq
      have t' := tie_cry (g := g) pm hs t
      have hne : (cry n o g q.1, cry n o g q.2).1 ≠ (cry n o g q.1, cry n o g q.2).2 := fun e => by
        have := cry_inj pm t.1.1 t.2.1.1 e
        rw [this] at lq
        exact List.lt_irrefl _ lq
      refine ⟨od_lt hne, p i, ?_⟩
      rcases od_mem (q := (cry n o g q.1, cry n o g q.2)) with e | e <;> rw [e]
      · exact t'
      · exact t'.symm
    · rintro ⟨lx, i, t⟩
      obtain ⟨a, b, ea, eb, t2⟩ := tie_unc pm hs t
      have ex : x = (cry n o g a, cry n o g b) := by rw [← ea, ← eb]
      rcases tie_le t2 with l | l
      · refine ⟨(a, b), (tiL_mem hs h0m).mpr ⟨l, _, t2⟩, ?_⟩
        rw [ex] at lx ⊢
        unfold od
        rw [if_pos lx]
      · refine ⟨(b, a), (tiL_mem hs h0m).mpr ⟨l, _, t2.symm⟩, ?_⟩
        rw [ex] at lx ⊢
        unfold od
        rw [if_neg (lt_asy lx)]
theorem unl_comm {a b : List Nat} (h : a.length = b.length) : unl a b = unl b a := by
  unfold unl
  rw [h]
  refine List.filter_congr fun i _ => ?_
  exact decide_eq_decide.mpr ⟨Ne.symm, Ne.symm⟩
theorem unl_cry (pm : Pm n o p) {a b : List Nat} (ha : HalfN n a) (hb : HalfN n b) : unl (od (cry n o g a, cry n o g b)).1 (od (cry n o g a, cry n o g b)).2 = (List.range n).filter fun i => decide (o i ∈ unl a b) := by
  have e : unl (cry n o g a) (cry n o g b) = (List.range n).filter fun i => decide (o i ∈ unl a b) := by
    show ((List.range (cry n o g a).length).filter fun i => decide (aT (cry n o g a) i ≠ aT (cry n o g b) i)) = _
    rw [cry_len]
    refine List.filter_congr fun i hi => ?_
    have hi := List.mem_range.mp hi
    exact decide_eq_decide.mpr ⟨fun h => (unl_mem ha.1).mpr ⟨pm.ho i hi, fun z => h ((cry_eq pm ha hb hi).mpr z)⟩, fun h z => ((unl_mem ha.1).mp h).2 ((cry_eq pm ha hb hi).mp z)⟩
  rcases od_mem (q := (cry n o g a, cry n o g b)) with z | z <;> rw [z]
  · exact e
  · rw [← e]
    exact unl_comm (by rw [cry_len, cry_len])
end
end Hid

namespace Hid
open PySem PySem.Spec PyProof.Rows L2
section
variable {prog : Program} {w : World} {A : Around} {E : Value → Shared → Prop} {s : Shared}
theorem tSetOfL {l : Addr} {items : Array Value} {xs : List Str} {Q : Value → Shared → Prop} (hh : A.handled = none) (hl : s.heap.IsList l items) (hi : StrsAre items.toList xs) (hsm : xs.length < 4000)
    (h : ∀ (h' : Heap) (tk : Nat), SetT w h' s.heap.objs.size (putAll [] xs) → (∀ b o, b < s.heap.objs.size → s.heap.get? b = some o → h'.get? b = some o) → Q (.ref s.heap.objs.size) { s with heap := h', toks := tk }) :
    wpAny (model prog w) A (call (.type "set") [.ref l]) Q E s := by
  obtain ⟨c, tl, hmro⟩ := PySem.F.called_set.mro
  have hmade := PySem.F.called_set.made; have hsub := PySem.F.called_set.sub
  refine wpAny_call (codeAny_of_tree ?_)
  show wpAny _ _ (callAny (.type "set") _) _ _ _
  refine wpAny_pure ⟨Code.quiet_builtin _ (by decide +kernel), codeAny_builtin PySem.F.entry_type_call ?_⟩
  rw [Around.under_plain (weight_type_call_type "set" [.ref l] []) rfl]
  have h1 := PySem.F.called_set.notType; have h2 := PySem.F.called_set.canCreate; have hct := PySem.F.typeCall_set_1 (.ref l)
  repeat any_goals (first | assumption | wp_step)
  refine codeAny_mono (tSetNew (.ref l) (E := E) (Q₁ := fun obj s₁ => obj = .ref s.heap.objs.size ∧ s₁ = { s with heap := s.heap.push (newSet (!w.params.followText "set-order")) }) ⟨rfl, rfl⟩) fun r s₁ hr => ?_
  cases r with
  | error e => exact hr
  | ok fl =>
    cases fl with
    | next => exact hr.elim
    | brk => exact hr.elim
    | cont => exact hr.elim
    | ret obj =>
      obtain ⟨rfl, rfl⟩ := hr
      generalize hled : (!w.params.followText "set-order") = led
      have hlo : w.params.followText "set-order" = true ∨ led = true := by
        rw [← hled]
        cases w.params.followText "set-order" <;> simp
      have hS : (s.heap.push (newSet led)).get? s.heap.objs.size = some (newSet led) := Heap.get?_push_size _ rfl
      have hT : Shared.TypeIs { s with heap := s.heap.push (newSet led) } (.ref s.heap.objs.size) "set" := ⟨_, hS, rfl⟩
      have hli := PySem.F.called_set.init.lookup; have hbi := PySem.F.called_set.init.bind (.ref s.heap.objs.size)
      repeat any_goals (first | assumption | wp_step)
      refine codeAny_mono (codeAny_call_builtin (R := wants (fun r s₂ => r = .none ∧ ∃ h' tk, s₂ = { s with heap := h', toks := tk } ∧ SetT w h' s.heap.objs.size (putAll [] xs) ∧ (∀ b o, b < s.heap.objs.size → s.heap.get? b = some o → h'.get? b = some o)) E) PySem.F.called_set.init.plain PySem.F.entry_set_init (check_set_init_1 hT ?_)) fun r₂ s₂ hr₂ => ?_
      · obtain ⟨⟨ocls, odict, odata, oslots⟩, hol, hcl, nl, hdl⟩ := hl
        simp only at hcl hdl
        subst hcl; subst hdl
        have hol' : (s.heap.push (newSet led)).get? l = some { cls := .type "list", dict := odict, data := .seq items nl, slots := oslots } := Heap.get?_push_of_some _ hol
        have hsls := PySem.F.sub_list_set; have hslf := PySem.F.sub_list_frozenset
        have hne : (Value.type "list" == Value.type "dict") = false := by decide
        have hl1 : (s.heap.push (newSet led)).IsList l items := ⟨_, hol', rfl, nl, rfl⟩
        unfold Builtin.«set.__init__» noKeywords Builtin.Frozenset.updateFrom
        generalize hPI : pyIter = PI
        wp_walk
        subst hPI
        refine wpAny_pyIter_list hl1 (wpAny_bind (wpAny_runValue ?_))
        have hlS : l < s.heap.objs.size := Heap.lt_size hol
        have hh3 : A.in1.in1.in1.handled = none := by simp [hh]
        have hneI : l ≠ (s.heap.push (newSet led)).objs.size := by
          rw [Heap.size_push]
          exact Nat.ne_of_lt (Nat.lt_succ_of_lt hlS)
        have hSf : s.heap.objs.size ∉ [(s.heap.push (newSet led)).objs.size, l] := by
          rw [Heap.size_push]
          simp only [List.mem_cons, List.not_mem_nil, or_false, not_or]
          exact ⟨Nat.ne_of_lt (Nat.lt_succ_self _), Nat.ne_of_gt hlS⟩
        have hsz : xs.length = items.size := by rw [← StrsAre.len_eq hi, Array.length_toList]
        refine tFill ((Walks.list hh3 _ l hneI items).toS) s.heap.objs.size hSf xs hsz (by omega) (fun i v hv => SS.strs_at hi i v (by rw [Array.getElem?_toList]; exact hv)) (items.size - 0) 0 _ (by omega) (Nat.zero_le _)
          ⟨⟨_, Heap.get?_push_size _ rfl, rfl, rfl⟩, (hl1.push _)⟩ (newSet_ok hlo (Heap.get?_push_of_some _ hS)) fun s' hm hS' => ?_
        obtain ⟨h', g', d', tk', os'⟩ := s'
        obtain rfl : g' = s.gens := hm.gens
        obtain rfl : d' = s.drawn := hm.drawn
        obtain rfl : os' = s.os := hm.os
        show wpAny _ _ _ _ _ _
        refine wpAny_pure ?_
        show wpAny _ _ (ret Value.none) _ _ _
        refine wpAny_pure ⟨rfl, h', tk', rfl, hS', fun b o hb e => hm.heap b o ?_ (Heap.get?_push_of_some _ (Heap.get?_push_of_some _ e))⟩
        simp only [List.mem_cons, List.not_mem_nil, or_false, not_or]
        refine ⟨Nat.ne_of_lt hb, ?_⟩
        rw [Heap.size_push]
        exact Nat.ne_of_lt (Nat.lt_succ_of_lt hb)
      · cases r₂ with
        | error e => exact hr₂
        | ok fl₂ =>
          cases fl₂ with
          | next => exact hr₂.elim
          | brk => exact hr₂.elim
          | cont => exact hr₂.elim
          | ret r =>
            obtain ⟨rfl, h', tk, rfl, hS', hk'⟩ := hr₂
            repeat any_goals (first | assumption | wp_step)
            exact h _ _ hS' hk'
end
/-- sorted(set(e)), e a list of texts -/
def tSortSetL (K : PySem.W.Frag) (te : TE) : TE := fun σ H Q => te σ H fun v H1 => ∃ (a : Addr) (xs : List Str), v = .ref a ∧ SqL K H1 a (xs.map V.str) ∧ xs.length < 4000 ∧ ∀ (ys : List Str) (p : Addr), Rise ys → ys.length ≤ xs.length → (∀ x, x ∈ ys ↔ x ∈ xs) → H1 p = none → Q (.ref p) (upd H1 p (.lst (ys.map V.str)))
theorem pe_sortSetL {X : Cx} {e : Expr} {te : TE} {p p2 pos pos2 : Pos} (hc : X.calm = true) (hu : X.A.units + 64 < cLine) (hg : Gl X "sorted") (hm : X.mg "sorted" = none) (hg2 : Gl X "set") (hm2 : X.mg "set" = none) (he : PE X e te)
    (hs : starEach [e] X.env = (false, eval e X.env) :: starEach [] X.env := by rfl)
    (hs2 : starEach [.Call (.Name "set" p2) [e] [] pos2] X.env = (false, eval (.Call (.Name "set" p2) [e] [] pos2) X.env) :: starEach [] X.env := by rfl) :
    PE X (.Call (.Name "sorted" p) [.Call (.Name "set" p2) [e] [] pos2] [] pos) (tSortSetL X.K te) := by
  refine ⟨fun pins s σ H Q I h => ?_⟩
  refine wpAny_Call_Name_kw (ld_blt I hg hm (by decide +kernel : bootBuiltins "sorted" = some (.builtin "sorted")) ?_)
  refine callWith_builtin1 (args_cons (Call_ (ld_blt I hg2 hm2 (by decide +kernel : bootBuiltins "set" = some (.type "set")) (callWith_type1 (args_cons (thn (he.run pins s σ H _ I h) fun u s1 ⟨v, H1, I1, r1, q1⟩ => args_nil ?_) hs) hs rfl))) hs2) hs2 rfl
  obtain ⟨a, xs, ev, hq, hsm, q⟩ := q1
  subst ev
  obtain rfl : u = Value.ref a := r1
  obtain ⟨its, rv, p', hz⟩ := I1.list hq
  have hh := I1.ok.hd hc
  obtain ⟨o0, n0, e0, c0, _, d0⟩ := p'
  refine tSetOfL hh ⟨o0, e0, c0, n0, d0⟩ (by rw [List.toList_toArray]; exact strs_of_vals rv) hsm fun h' tk hS hk => args_nil ?_
  have I2 : Inv X pins σ H1 { s1 with heap := h', toks := tk } := I1.kept (t' := tk) fun b o e => hk b o (Heap.lt_size e) e
  refine tSorted (s := { s1 with heap := h', toks := tk }) hS hh hu fun s' p3 out c ys k g o hp hget hst hri hpm => ?_
  have hn : H1 p3 = none := I2.hok.fresh hp
  have hys : ys.length ≤ sizeLine := by
    have h1 := putAll_len xs []
    rw [hpm.length_eq, sizeLine_eq]
    rw [List.length_nil] at h1
    omega
  have J : Inv X pins σ (upd H1 p3 (.lst (ys.map V.str))) { ({ s1 with heap := h', toks := tk } : Shared) with heap := s'.heap, gens := s'.gens, drawn := s'.drawn, toks := s'.toks } :=
    I2.call (ch := []) (Un.laid k hp hn) (I2.hok.laid k hp ⟨by rw [List.length_map]; exact hys, out.toList, c, vals_of_strs hst, hget⟩) (by rw [g]; exact I2.bare) (fun _ z => nomatch z)
  have e : s' = { ({ s1 with heap := h', toks := tk } : Shared) with heap := s'.heap, gens := s'.gens, drawn := s'.drawn, toks := s'.toks } := by
    have o2 : s'.os = s1.os := o
    obtain ⟨x1, x2, x3, x4, x5⟩ := s'
    dsimp only at o2 ⊢
    rw [o2]
  rw [e]
  refine ⟨.ref p3, _, J, rfl, q ys p3 hri (by have h1 := putAll_len xs []; rw [List.length_nil] at h1; rw [hpm.length_eq]; omega) (fun x => ?_) hn⟩
  rw [hpm.mem_iff, putAll_mem]
  simp
end Hid

namespace Hid
open PySem PySem.Spec PyProof.Rows L2
/-! ### set comprehensions of one clause and of two: a clause's loop over any work at its turn's end -/
abbrev No : Value → Shared → Prop := fun _ _ => False
/-- a clause's turn, the work at its end told apart -/
def turnOf (p : Pos) (t : Expr) (ifs : List Expr) (it : Value) (env : Env) (work : Sem Unit) (nxt : Sem PySem.Fin) : Sem PySem.Fin := do
  standAt p
  match ← pyNext it with
  | none => pure (.done .next)
  | some v =>
    letOwnedTupleGo t it v
    assign t env v
    let mut ok := true
    for c in ifs do
      if ok then ok ← isTrue c env (eval c env)
    if ok then work
    nxt
section
variable {prog : Program} {w : World} {A : Around} {R : Result → Shared → Prop} {s : Shared} {elt t : Expr} {gens : List Comprehension} {scope : Scope} {spos : Pos} {k : Nat} {it acc : Value} {env : Env} {p : Pos} {ifs : List Expr} {work : Sem Unit}
theorem own_loop (hturn : compTurn (.SetComp elt gens scope spos) k it acc env = turnOf p t ifs it env work (again (.compLoop (.SetComp elt gens scope spos) k it acc env))) (I : Nat → Shared → Prop)
    (turn : ∀ n s, I n s → wpAny (model prog w) A (pyNext it) (fun r s1 => match r with
      | none => R (.ok .next) s1
      | some v => wpAny (model prog w) A (letOwnedTupleGo t it v) (fun _ s2 => wpAny (model prog w) A (assign t env v) (fun _ s3 =>
        wpAny (model prog w) A (forIn ifs true fun c r => if r = true then do let ok ← isTrue c env (eval c env); pure (ForInStep.yield ok) else pure (ForInStep.yield r)) (fun ok s4 =>
          if ok = true then wpAny (model prog w) A work (fun _ s5 => ∃ m, m < n ∧ I m s5) No s4 else ∃ m, m < n ∧ I m s4) No s3) No s2) No s1) No s) (n : Nat) (h : I n s) :
    codeAny (model prog w) A (.compLoop (.SetComp elt gens scope spos) k it acc env) R s := by
  refine codeAny_loop rfl I (fun n s hI => ?_) n h
  show wpAny _ A ((compTurn (.SetComp elt gens scope spos) k it acc env).onRaise fun x => do noteFrame x env; theTreesLotGoes x) _ _ s
  refine wpAny_noted ?_
  rw [hturn]
  refine wpAny_bind (wpAny_standAt (wpAny_bind (thnF (turn n s hI) fun r s1 h1 => ?_)))
  cases r with
  | none => exact wpAny_pure h1
  | some v =>
    refine wpAny_bind (thnF h1 fun _ s2 h2 => wpAny_bind (thnF h2 fun _ s3 h3 => wpAny_bind (thnF h3 fun ok s4 h4 => ?_)))
    cases ok with
    | false => exact wpAny_pure ⟨rfl, h4⟩
    | true => exact wpAny_bind (thnF h4 fun _ s5 h5 => wpAny_pure ⟨rfl, h5⟩)
end
/-- the work at a turn's end reads so: what is known of the slots outside vs stays -/
def PB (Y : Cx) (vs : List Nat) (work : Sem Unit) (tb : L2.St → Hp → (Hp → Prop) → Prop) : Prop := ∀ (pins : List (Addr × Obj)) (s : Shared) (σ : L2.St) (H : Hp) (Nx : Hp → Prop), Inv Y pins σ H s → tb σ H Nx →
  wpAny (model Y.prog Y.w) Y.A work (fun _ s' => ∃ σ' H', Inv Y pins σ' H' s' ∧ (σ'.length = σ.length ∧ ∀ (j : Nat) v, (wipe σ vs)[j]? = some (some v) → σ'[j]? = some (some v)) ∧ Nx H') No s
/-- what a clause wishes: W over the turns -/
def Cla (J : It) (g : TG) (tt : TT) (tb : L2.St → Hp → (Hp → Prop) → Prop) (vs : List Nat) (σ : L2.St) (QD : Hp → Prop) (W : Nat → Nat → Hp → Prop) : Prop := ∀ i m H, W i m H → (J.stop i H ∧ QD H) ∨ (J.go i H ∧ ∃ Nx : Hp → Prop, (∀ H', Nx H' → ∃ m', m' < m ∧ W (i + 1) m' H') ∧
  ∀ x H', J.yld i H x H' → g x (wipe σ vs) H' fun σ2 H2 => wipe σ2 vs = wipe σ vs ∧ tt σ2 H2 fun b H3 => if b = true then tb σ2 H3 Nx else Nx H3)
section
variable {Y : Cx} {elt tg : Expr} {gens : List Comprehension} {scope : Scope} {spos : Pos} {k : Nat} {acc : Value} {p : Pos} {ifs : List Expr} {work : Sem Unit} {g : TG} {tt : TT} {tb : L2.St → Hp → (Hp → Prop) → Prop} {vs : List Nat} {σ : L2.St} {J : It} {fp : List Addr} {it : Addr} {tn : Nat → Heap → Prop} {QD : Hp → Prop} {W : Nat → Nat → Hp → Prop}
theorem cla_loop (hc : Y.calm = true) (hxe : Y.xe = No) (hturn : compTurn (.SetComp elt gens scope spos) k (.ref it) acc Y.env = turnOf p tg ifs (.ref it) Y.env work (again (.compLoop (.SetComp elt gens scope spos) k (.ref it) acc Y.env))) (pg : PG Y tg g) (pt : PTs Y ifs tt) (pb : PB Y vs work tb)
    (T : Turn Y.prog Y.w Y.K tg J fp it tn) (pins : List (Addr × Obj)) (hfp : ∀ H' : Hp, (∀ b ∈ fp, H' b = none) → ∀ b ∈ fp, FpOk Y pins H' b) (cla : Cla J g tt tb vs σ QD W)
    (m i : Nat) (s : Shared) (H : Hp) (I : Inv Y pins (wipe σ vs) H s) (st : tn i s.heap) (hn : ∀ b ∈ fp, H b = none) (w0 : W i m H) {R : Result → Shared → Prop} (hR : ∀ s' H', Inv Y pins (wipe σ vs) H' s' → QD H' → R (.ok .next) s') :
    codeAny (model Y.prog Y.w) Y.A (.compLoop (.SetComp elt gens scope spos) k (.ref it) acc Y.env) R s := by
  refine own_loop hturn (fun n s' => ∃ i H', Inv Y pins (wipe σ vs) H' s' ∧ tn i s'.heap ∧ (∀ b ∈ fp, H' b = none) ∧ W i n H') (fun n s5 hI => ?_) m ⟨i, H, I, st, hn, w0⟩
  obtain ⟨i, H5, I5, st5, n5, w5⟩ := hI
  rcases cla i n H5 w5 with ⟨stop, qd⟩ | ⟨go, Nx, hNx, step⟩
  · exact wpAny_mono (T.done Y rfl rfl rfl hc i pins s5 _ H5 No I5 (hfp H5 n5) st5 stop) (fun r s6 ⟨hr, I6⟩ => by subst hr; exact hR s6 H5 I6 qd) fun _ _ z => z
  · refine wpAny_mono (T.item Y rfl rfl rfl hc i pins s5 _ H5 No I5 (hfp H5 n5) st5 go) (fun r s6 ⟨u, hr, h6⟩ => ?_) fun _ _ z => z
    subst hr
    refine wpAny_mono h6 (fun _ s7 ⟨x, H7, I7, r7, y7, st7, n7⟩ => ?_) fun _ _ z => z
    have J7 := I7.pinned (hfp H7 n7) (T.obj _ _ st7)
    refine wpAny_mono (pg.run _ s7 _ H7 x u _ J7 r7 (step x H7 y7)) (fun _ s8 ⟨σ8, H8, I8, hw8, q8⟩ => ?_) fun _ _ z => by rw [hxe] at z; exact z
    refine wpAny_mono (pt.run _ s8 σ8 H8 _ I8 q8) (fun b s9 ⟨H9, I9, q9⟩ => ?_) fun _ _ z => by rw [hxe] at z; exact z
    have back : ∀ {σ9 : L2.St} {s' : Shared} {H' : Hp}, Inv Y (pins ++ pinsAt fp s7.heap) σ9 H' s' → σ9.length = σ8.length → (∀ (j : Nat) v, (wipe σ8 vs)[j]? = some (some v) → σ9[j]? = some (some v)) → Nx H' →
        ∃ m, m < n ∧ ∃ i H', Inv Y pins (wipe σ vs) H' s' ∧ tn i s'.heap ∧ (∀ b ∈ fp, H' b = none) ∧ W i m H' := fun {σ9 s' H'} I' hl hk nx => by
      obtain ⟨m', hm, w'⟩ := hNx H' nx
      have at7 : ∀ b ∈ fp, ∀ o, s7.heap.get? b = some o → s'.heap.get? b = some o ∧ H' b = none := fun b hb o eo => (I'.pin (b, o) (List.mem_append_right _ (List.mem_append_right _ (mem_pinsAt hb eo)))).imp id fun z => z.1
      refine ⟨m', hm, i + 1, H', (I'.unpinned (pins := pins)).weak (by rw [← hw8, wipe_length, hl]) (fun j v ej => hk j v (by rw [hw8]; exact ej)), T.keep _ _ _ st7 fun b hb o eo => (at7 b hb o eo).1, fun b hb => ?_, w'⟩
      obtain ⟨o, eo, _⟩ := T.obj _ _ st7 b hb
      exact (at7 b hb o eo).2
    cases b with
    | false => exact back I9 rfl (fun j v ej => (wipe_some ej).1) (by simpa using q9)
    | true => exact wpAny_mono (pb _ s9 σ8 H9 Nx I9 (by simpa using q9)) (fun _ s' ⟨σ', H', I', ⟨hl, hk⟩, nx⟩ => back I' hl hk nx) fun _ _ z => z
end
end Hid

namespace Hid
open PySem PySem.Spec PyProof.Rows L2
/-! sets of texts as tracked things -/
def SetX (w : World) (a : Addr) (xs : List Str) : HO := .ext fun h => SetT w h a xs
theorem setX_ok {w : World} {P : Program} {H : Hp} {h : Heap} {a : Addr} {xs : List Str} (R : SetT w h a xs) : ObjOk P w H h a (SetX w a xs) :=
  ⟨R, let ⟨o, _, _, _, ho, _⟩ := R; ⟨o, ho⟩, fun h1 h2 q k => SetT.keep q k⟩
theorem setT_type {w : World} {s : Shared} {a : Addr} {xs : List Str} (R : SetT w s.heap a xs) : s.TypeIs (.ref a) "set" := let ⟨o, _, _, _, ho, hex, _⟩ := R; ⟨o, ho, hex.1⟩
theorem tAddCall {P : Program} {w : World} {A : Around} {E : Value → Shared → Prop} {s : Shared} {a : Addr} {xs : List Str} {k : Str} {tk : Tok} {Q : Value → Shared → Prop} (R : SetT w s.heap a xs) (room : xs.length + 1 < scanBound)
    (hQ : ∀ h', Heap.SameBut a s.heap h' → SetT w h' a (putT k xs) → Q .none { s with heap := h', toks := s.toks + 1 }) : wpAny (model P w) A (call (.builtin "set.add") [.ref a, .str k tk]) Q E s := by
  refine wpAny_call_entry F.slot_set_add (setT_type R) F.entry_set_add ?_ (F.args_set_add_2 _ _)
  unfold Builtin.«set.add» Builtin.Frozenset.oneOther <;> simp only [List.isEmpty_nil, bind_assoc] <;> unfold Builtin.Frozenset.addrOf setAdd
  refine wpAny_bind (wpAny_pure (wpAny_bind (wpAny_pure (wpAny_bind (wpAny_holding (wpAny_bind ((PySem.strKind P w).pyHash (k := k) (strKind_is P w k tk) ?_)))))))
  refine tAdd (s := { s with toks := s.toks + 1 }) R room fun b h' sb r => ?_
  exact wpAny_pure ⟨_, rfl, hQ h' sb r⟩
section
variable {Y : Cx} {pins : List (Addr × Obj)} {σ : L2.St} {H : Hp} {s : Shared}
theorem addT_ok {E : Value → Shared → Prop} {D : Addr} {xs : List Str} {k : Str} {tk : Tok} {Q : Value → Shared → Prop} (I : Inv Y pins σ H s) (hD : H D = some (SetX Y.w D xs)) (room : xs.length + 1 < scanBound) (h : ∀ s', Inv Y pins σ (upd H D (SetX Y.w D (putT k xs))) s' → Q .none s') :
    wpAny (model Y.prog Y.w) Y.A (call (.builtin "set.add") [.ref D, .str k tk]) Q E s := by
  refine tAddCall (I.hok D _ hD).1 room fun h' sb new => h _ ?_
  exact I.write (e := D) (t' := s.toks + 1) (by rw [hD]; trivial) (.inl rfl) (fun b u hb hu => (sb.2 b hb).trans hu) (let ⟨o, _, _, _, ho, _⟩ := new; ⟨o, ho⟩) (setX_ok new)
end
/-! the works -/
def addWork (elt : Expr) (acc : Value) (env : Env) : Sem Unit := do let v ← eval elt env; standAt elt.pos; let _ ← call (.builtin "set.add") [acc, v]
def inWork (e i1 : Expr) (acc : Value) (env : Env) : Sem Unit := do let x ← eval i1 env; standAt i1.pos; let x ← foldedSetIterable i1 env x; let _ ← runOwn (.compStart e 1 (← holding [x] (pyIter x)) acc env) env
section
variable (elt t0 i0 t1 i1 : Expr) (ifs0 ifs1 : List Expr) (scope : Scope) (pos : Pos) (it acc : Value) (env : Env)
theorem sc_turn : compTurn (.SetComp elt [⟨t0, i0, ifs0, 0⟩] scope pos) 0 it acc env = turnOf i0.pos t0 ifs0 it env (addWork elt acc env) (again (.compLoop (.SetComp elt [⟨t0, i0, ifs0, 0⟩] scope pos) 0 it acc env)) := rfl
theorem sc2_turn0 : compTurn (.SetComp elt [⟨t0, i0, ifs0, 0⟩, ⟨t1, i1, ifs1, 0⟩] scope pos) 0 it acc env = turnOf i0.pos t0 ifs0 it env (inWork (.SetComp elt [⟨t0, i0, ifs0, 0⟩, ⟨t1, i1, ifs1, 0⟩] scope pos) i1 acc env) (again (.compLoop (.SetComp elt [⟨t0, i0, ifs0, 0⟩, ⟨t1, i1, ifs1, 0⟩] scope pos) 0 it acc env)) := by
  unfold turnOf inWork
  simp only [bind_assoc]
  rfl
theorem sc2_turn1 : compTurn (.SetComp elt [⟨t0, i0, ifs0, 0⟩, ⟨t1, i1, ifs1, 0⟩] scope pos) 1 it acc env = turnOf i1.pos t1 ifs1 it env (addWork elt acc env) (again (.compLoop (.SetComp elt [⟨t0, i0, ifs0, 0⟩, ⟨t1, i1, ifs1, 0⟩] scope pos) 1 it acc env)) := rfl
end
abbrev TB2 := L2.St → Hp → (Hp → Prop) → Prop
def tAddT (w : World) (D : Addr) (te : TE) : TB2 := fun σ H Nx => te σ H fun y H1 => ∃ (x : Str) (xs : List Str), y = .str x ∧ H1 D = some (SetX w D xs) ∧ xs.length + 1 < scanBound ∧ Nx (upd H1 D (SetX w D (putT x xs)))
def tIn (wi1 : TI) (g1 : TG) (tt1 : TT) (tb1 : TB2) (vs1 : List Nat) : TB2 := fun σ H Nx => wi1 σ H fun J1 H4 => ∃ W1 : Nat → Nat → Hp → Prop, (∃ m, W1 0 m H4) ∧ Cla J1 g1 tt1 tb1 vs1 σ Nx W1
section
variable {Y : Cx} {elt tg : Expr} {te : TE} {vs : List Nat}
theorem pb_addT {D : Addr} (hxe : Y.xe = No) (pe : PE Y elt te) : PB Y vs (addWork elt (.ref D) Y.env) (tAddT Y.w D te) := fun pins s σ H Nx I h => by
  unfold addWork
  refine wpAny_bind (wpAny_mono (pe.run pins s σ H _ I h) (fun z s1 ⟨y, H1, I1, r1, x, xs, ey, hD, hl, nx⟩ => ?_) fun _ _ z => by rw [hxe] at z; exact z)
  subst ey
  obtain ⟨tk, rfl⟩ := r1
  exact wpAny_bind (wpAny_standAt (wpAny_bind (addT_ok I1 hD hl fun s2 I2 => wpAny_pure ⟨σ, _, I2, ⟨rfl, fun j v e => (wipe_some e).1⟩, nx⟩)))
end
section
variable {prog : Program} {w : World} {A : Around} {R : Result → Shared → Prop} {s : Shared} {elt t1 i1 : Expr} {c0 : Comprehension} {ifs1 : List Expr} {scope : Scope} {pos : Pos} {it acc : Value} {env : Env}
/-- the second clause's start -/
theorem sc_start1 (h0 : codeAny (model prog w) A (.compLoop (.SetComp elt [c0, ⟨t1, i1, ifs1, 0⟩] scope pos) 1 it acc env) R s)
    (h : wpAny (model prog w) A (pyIter it) (fun it' s' => codeAny (model prog w) A (.compLoop (.SetComp elt [c0, ⟨t1, i1, ifs1, 0⟩] scope pos) 1 it' acc env) R s') No s) : codeAny (model prog w) A (.compStart (.SetComp elt [c0, ⟨t1, i1, ifs1, 0⟩] scope pos) 1 it acc env) R s := by
  refine codeAny_of_tree ?_
  show wpAny _ _ ((compStart (.SetComp elt [c0, ⟨t1, i1, ifs1, 0⟩] scope pos) 1 it acc env).onRaise fun x => do noteFrame x env; standAt theWindowsPlace) _ _ s
  refine wpAny_notedAt ?_ <;> unfold compStart
  show wpAny _ _ (ask >>= _) _ _ s
  refine wpAny_bind (wpAny_askSetting (wpAny_ite ?_)) <;> split
  · first | exact wpAny_bind (wpAny_pure (wpAny_pure ⟨rfl, h0⟩)) | exact wpAny_pure ⟨rfl, h0⟩
  · refine wpAny_bind (wpAny_rule ?_); show wpAny _ _ (standAt i1.pos >>= _) _ _ s; exact wpAny_bind (wpAny_standAt (wpAny_bind (thnF h fun it' s' h' => wpAny_pure ⟨rfl, h'⟩)))
end
section
variable {Y : Cx} {elt t1 i1 : Expr} {c0 : Comprehension} {ifs1 : List Expr} {scope : Scope} {pos : Pos} {acc : Value} {work1 : Sem Unit} {wi1 : TI} {g1 : TG} {tt1 : TT} {tb1 : TB2} {vs vs1 : List Nat}
theorem pb_in (hc : Y.calm = true) (hxe : Y.xe = No) (hturn : ∀ it, compTurn (.SetComp elt [c0, ⟨t1, i1, ifs1, 0⟩] scope pos) 1 it acc Y.env = turnOf i1.pos t1 ifs1 it Y.env work1 (again (.compLoop (.SetComp elt [c0, ⟨t1, i1, ifs1, 0⟩] scope pos) 1 it acc Y.env)))
    (pi : PI Y t1 i1 wi1) (pg : PG Y t1 g1) (pt : PTs Y ifs1 tt1) (pb : PB Y vs1 work1 tb1) (hv : ∀ i ∈ vs1, i ∈ vs) (hs : ∀ x, foldedSetIterable i1 Y.env x = pure x) : PB Y vs (inWork (.SetComp elt [c0, ⟨t1, i1, ifs1, 0⟩] scope pos) i1 acc Y.env) (tIn wi1 g1 tt1 tb1 vs1) := fun pins s σ H Nx I h => by
  have no : ∀ {u : Value} {s' : Shared}, Y.xe u s' → No u s' := fun z => by rw [hxe] at z; exact z
  unfold inWork
  refine wpAny_bind (wpAny_mono (pi.run pins s σ H _ I h) (fun x s1 hx => ?_) fun _ _ z => no z)
  refine wpAny_bind (wpAny_standAt (wpAny_bind (wpAny_of_eq (hs x) (wpAny_bind (wpAny_holding (wpAny_mono hx (fun itv s2 h2 => ?_) fun _ _ z => no z))))))
  obtain ⟨it, fp, tn, J, H2, rfl, I2, T, st2, f2, W1, ⟨m1, w1⟩, cla⟩ := h2
  refine wpAny_bind (wpAny_runOwn ?_)
  rw [Around.mark_none]
  have lp : ∀ {R : Result → Shared → Prop}, (∀ s' H', Inv Y pins (wipe σ vs1) H' s' → Nx H' → R (.ok .next) s') → codeAny (model Y.prog Y.w) Y.A (.compLoop (.SetComp elt [c0, ⟨t1, i1, ifs1, 0⟩] scope pos) 1 (.ref it) acc Y.env) R s2 := fun hR =>
    cla_loop hc hxe (hturn _) pg pt pb T pins (fun H' hn b hb => ⟨hn b hb, (f2 b hb).2⟩) cla m1 0 s2 H2 (I2.weak (wipe_length _ _) fun j v e => (wipe_some e).1) st2 (fun b hb => (f2 b hb).1) w1 hR
  have fin : ∀ s' H', Inv Y pins (wipe σ vs1) H' s' → Nx H' → ∃ σ' H', Inv Y pins σ' H' s' ∧ (σ'.length = σ.length ∧ ∀ (j : Nat) v, (wipe σ vs)[j]? = some (some v) → σ'[j]? = some (some v)) ∧ Nx H' := fun s' H' I' nx => ⟨wipe σ vs1, H', I', ⟨wipe_length _ _, fun j v e => by
    obtain ⟨a, b⟩ := wipe_some e
    rw [wipe_out fun z => b (hv j z)]
    exact a⟩, nx⟩
  refine codeAny_mono (sc_start1 (R := fun r s' => r = .ok .next ∧ ∃ σ' H', Inv Y pins σ' H' s' ∧ (σ'.length = σ.length ∧ ∀ (j : Nat) v, (wipe σ vs)[j]? = some (some v) → σ'[j]? = some (some v)) ∧ Nx H') (lp fun s' H' I' nx => ⟨rfl, fin s' H' I' nx⟩) (T.self Y.A 0 _ _ _ st2 (lp fun s' H' I' nx => ⟨rfl, fin s' H' I' nx⟩))) fun r s' hr => ?_
  obtain ⟨rfl, hr⟩ := hr
  first | exact wpAny_pure hr | exact wpAny_bind (wpAny_pure (wpAny_pure hr)) | exact hr
end
end Hid

namespace Hid
open PySem PySem.Spec PyProof.Rows L2
/-- {.. for tg in iter if .. ..}: D the new set, S0 as it is at first, tb the work at the first clause's turn's end -/
def tSetC (S0 : Addr → HO) (wi : TI) (g : TG) (tt : TT) (tb : Addr → TB2) (vs : List Nat) : TE := fun σ H Q => wi σ H fun J H1 => ∀ D, H1 D = none → ∃ W : Nat → Nat → Hp → Prop, (∃ m, W 0 m (upd H1 D (S0 D))) ∧ Cla J g tt (tb D) vs σ (fun H' => Q (.ref D) H') W
abbrev newSetO (w : World) : Obj := { cls := .type "set", dict := none, data := .set #[] 0 (.fresh 0 0 (!w.params.followText "set-order")) }
section
variable {X : Cx} {elt tg iter : Expr} {ifs : List Expr} {rest : List Comprehension} {scope : Scope} {own : List (Str × Nat)} {pos : Pos} {wi : TI} {g : TG} {tt : TT} {work : Value → Env → Sem Unit} {tb : Addr → TB2} {S0 : Addr → HO}
theorem pe_setC (hc : X.calm = true) (hN : X.N.Nodup) (hi : PI X tg iter wi) (ok : BlkOk X.N X.env.scope scope own) (hS : ∀ (H : Hp) (h : Heap) (D : Addr), h.get? D = some (newSetO X.w) → ObjOk X.prog X.w H h D (S0 D))
    (hturn : ∀ it acc env, compTurn (.SetComp elt (⟨tg, iter, ifs, 0⟩ :: rest) scope pos) 0 it acc env = turnOf iter.pos tg ifs it env (work acc env) (again (.compLoop (.SetComp elt (⟨tg, iter, ifs, 0⟩ :: rest) scope pos) 0 it acc env)))
    (hg : ∀ (s : Shared) (H : Hp) (C : Addr) (cl : List (Str × Addr)) (fp : List Addr), PG (X.blk s H scope (compEnvC scope cl C X.env) fp) tg g) (ht : ∀ (s : Shared) (H : Hp) (C : Addr) (cl : List (Str × Addr)) (fp : List Addr), PTs (X.blk s H scope (compEnvC scope cl C X.env) fp) ifs tt)
    (hb : ∀ (s : Shared) (H : Hp) (C : Addr) (cl : List (Str × Addr)) (fp : List Addr) (D : Addr), PB (X.blk s H scope (compEnvC scope cl C X.env) fp) (own.map (·.2)) (work (.ref D) (compEnvC scope cl C X.env)) (tb D)) (hs : ∀ x, foldedSetIterable iter X.env x = pure x := by intro _; rfl) :
    PE X (.SetComp elt (⟨tg, iter, ifs, 0⟩ :: rest) scope pos) (tSetC S0 wi g tt tb (own.map (·.2))) := by
  refine ⟨fun pins s σ H Q I h => ?_⟩
  rw [PpSet.eval_SetComp]
  have hfree : ∀ y ∈ scope.names, y.2 = .free → ∃ c, X.env.cells.lookup y.1 = some c := fun y hy e => (ok.free y hy e).elim (fun k => I.ok.has _ (.inl k)) fun k => I.ok.has _ (.inr k)
  refine wpAny_comprehension_free (use := none) rfl hs (closure_ok hfree) ok.kind (fun y hy e => by rw [ok.uniq y hy, e]) (thn (hi.run pins s σ H _ I h) fun xv s1 hx => thn hx fun itv s2 h2 => ?_)
  obtain ⟨it, fp, tn, J, H2, rfl, I2, T, st2, f2, q⟩ := h2
  refine PpSet.newSet_ok (newEnv_comp ?_)
  generalize hD : s2.heap.objs.size = D; generalize hs3 : ({ s2 with heap := s2.heap.push (newSetO X.w) } : Shared) = s3
  have h3 : s3.heap = s2.heap.push (newSetO X.w) := by rw [← hs3]
  have hget : s3.heap.get? D = some (newSetO X.w) := by rw [h3, ← hD]; exact Heap.get?_push_size _ rfl
  obtain ⟨W, ⟨m0, w0⟩, cla⟩ := q D (I2.hok.fresh (Nat.le_of_eq hD))
  have I3 : Inv X pins σ (upd H2 D (S0 D)) s3 := by
    rw [← hs3] at hget ⊢
    exact I2.laid (t' := s2.toks) (fun b o e => Heap.get?_push_of_some _ e) (Nat.le_of_eq hD) (hS _ _ D hget)
  have f3 : ∀ b ∈ fp, FpOk X pins (upd H2 D (S0 D)) b ∧ b < s3.heap.objs.size := fun b hb => by
    obtain ⟨o, eo, _⟩ := T.obj _ _ st2 b hb
    have hlt := Heap.lt_size eo
    exact ⟨⟨by rw [upd_ne (by rw [← hD]; exact Nat.ne_of_lt hlt)]; exact (f2 b hb).1, (f2 b hb).2⟩, by rw [h3, Heap.size_push]; exact Nat.lt_succ_of_lt hlt⟩
  have I4 := block_start I3 ok hN f3
  obtain ⟨cl, hcl⟩ : ∃ cl, cellsFrom (s3.heap.objs.size + 1) scope.names (cloFrom X.env.cells scope.names []) = cl := ⟨_, rfl⟩
  rw [hcl] at I4
  have pg := hg s3 (upd H2 D (S0 D)) s3.heap.objs.size cl fp
  have pt := ht s3 (upd H2 D (S0 D)) s3.heap.objs.size cl fp
  have pb := hb s3 (upd H2 D (S0 D)) s3.heap.objs.size cl fp D
  show codeAny _ _ (.compStart _ 0 (.ref it) (.ref D) (compEnvC scope (cellsFrom (s3.heap.objs.size + 1) scope.names (cloFrom X.env.cells scope.names [])) s3.heap.objs.size X.env)) (compPost (model X.prog X.w) X.A X.xe none _ (.ref D) s3.heap.objs.size) { s3 with heap := pushCells (s3.heap.push { cls := .type "dict", data := .dict #[] }) scope.names }
  rw [hcl]
  obtain ⟨s4, hs4⟩ : ∃ s4 : Shared, ({ s3 with heap := pushCells (s3.heap.push { cls := .type "dict", data := .dict #[] }) scope.names } : Shared) = s4 := ⟨_, rfl⟩
  rw [hs4] at I4 ⊢
  have st4 : tn 0 s4.heap := T.keep _ _ _ st2 fun b _ o eo => by rw [← hs4]; exact pushCells_keeps _ _ _ _ (Heap.get?_push_of_some _ (by rw [h3]; exact Heap.get?_push_of_some _ eo))
  have lp : codeAny (model X.prog X.w) X.A (.compLoop (.SetComp elt (⟨tg, iter, ifs, 0⟩ :: rest) scope pos) 0 (.ref it) (.ref D) (compEnvC scope cl s3.heap.objs.size X.env)) (compPost (model X.prog X.w) X.A X.xe none (EP X pins σ Q) (.ref D) s3.heap.objs.size) s4 := by
    refine cla_loop (Y := X.blk s3 (upd H2 D (S0 D)) scope (compEnvC scope cl s3.heap.objs.size X.env) fp) hc rfl (hturn _ _ _) pg pt pb T [] (fun H' hn b hb => ?_) cla m0 0 s4 _ I4 st4 (fun b hb => (f3 b hb).1.1) w0 fun s6 H6 I6 qq => ?_
    · exact ⟨hn b hb, (I4.ok.exf b hb).1, I4.ok.exfs b hb, .inl hb, fun x c e => (I4.ok.exf b hb).2 x c e, fun p hp => absurd (show p ∈ ([] : List (Addr × Obj)) ++ [] from hp) (by simp)⟩
    · have I7 : Inv X pins σ H6 s6 := I3.call' (ch := fp) I6.os I6.base I6.hok I6.bare fun b hb => ⟨(f3 b hb).1.2.2.2.1, (f3 b hb).1.2.1, (f3 b hb).1.2.2.2.2.1, (f3 b hb).1.2.2.2.2.2⟩
      have nC : H6 s3.heap.objs.size = none := I6.free
      obtain ⟨m, hn, _⟩ := I6.loc
      refine ⟨m, hn, fun h'' sb => ?_⟩
      obtain ⟨f0, f1, f2', f3', f4, f5⟩ := I3.fpOk (Nat.le_refl _) nC
      exact ⟨.ref D, H6, I7.turned (t' := s6.toks) (fun b o hb eo => (sb.2 b hb).trans eo) f0 f1 f3' f4 f5, rfl, qq⟩
  exact PpSet.codeAny_compStart_set lp (T.self X.A 0 _ _ _ st4 lp)
end
section
variable {X : Cx} {elt tg iter tg1 iter1 : Expr} {ifs ifs1 : List Expr} {scope : Scope} {own : List (Str × Nat)} {pos : Pos} {wi wi1 : TI} {g g1 : TG} {tt tt1 : TT} {te : TE} {vs1 : List Nat}
theorem setX_new (X : Cx) (H : Hp) (h : Heap) (D : Addr) (e : h.get? D = some (newSetO X.w)) : ObjOk X.prog X.w H h D (SetX X.w D []) := setX_ok (newSet_ok (by cases X.w.params.followText "set-order" <;> simp) e)
/-- {text for .. in .. if ..} -/
theorem pe_scT (hc : X.calm = true) (hN : X.N.Nodup) (hi : PI X tg iter wi) (ok : BlkOk X.N X.env.scope scope own) (hg : ∀ (s : Shared) (H : Hp) (C : Addr) (cl : List (Str × Addr)) (fp : List Addr), PG (X.blk s H scope (compEnvC scope cl C X.env) fp) tg g)
    (ht : ∀ (s : Shared) (H : Hp) (C : Addr) (cl : List (Str × Addr)) (fp : List Addr), PTs (X.blk s H scope (compEnvC scope cl C X.env) fp) ifs tt) (he : ∀ (s : Shared) (H : Hp) (C : Addr) (cl : List (Str × Addr)) (fp : List Addr), PE (X.blk s H scope (compEnvC scope cl C X.env) fp) elt te) (hs : ∀ x, foldedSetIterable iter X.env x = pure x := by intro _; rfl) :
    PE X (.SetComp elt [⟨tg, iter, ifs, 0⟩] scope pos) (tSetC (fun D => SetX X.w D []) wi g tt (fun D => tAddT X.w D te) (own.map (·.2))) :=
  pe_setC (work := addWork elt) hc hN hi ok (setX_new X) (fun it acc env => sc_turn _ _ _ _ _ _ _ _ _) hg ht (fun s H C cl fp D => pb_addT rfl (he s H C cl fp)) hs
/-- {text for .. in .. if .. for .. in .. if ..} -/
theorem pe_scT2 (hc : X.calm = true) (hN : X.N.Nodup) (hi : PI X tg iter wi) (ok : BlkOk X.N X.env.scope scope own) (hv : ∀ i ∈ vs1, i ∈ own.map (·.2)) (hg : ∀ (s : Shared) (H : Hp) (C : Addr) (cl : List (Str × Addr)) (fp : List Addr), PG (X.blk s H scope (compEnvC scope cl C X.env) fp) tg g)
    (ht : ∀ (s : Shared) (H : Hp) (C : Addr) (cl : List (Str × Addr)) (fp : List Addr), PTs (X.blk s H scope (compEnvC scope cl C X.env) fp) ifs tt) (hi1 : ∀ (s : Shared) (H : Hp) (C : Addr) (cl : List (Str × Addr)) (fp : List Addr), PI (X.blk s H scope (compEnvC scope cl C X.env) fp) tg1 iter1 wi1)
    (hg1 : ∀ (s : Shared) (H : Hp) (C : Addr) (cl : List (Str × Addr)) (fp : List Addr), PG (X.blk s H scope (compEnvC scope cl C X.env) fp) tg1 g1) (ht1 : ∀ (s : Shared) (H : Hp) (C : Addr) (cl : List (Str × Addr)) (fp : List Addr), PTs (X.blk s H scope (compEnvC scope cl C X.env) fp) ifs1 tt1)
    (he : ∀ (s : Shared) (H : Hp) (C : Addr) (cl : List (Str × Addr)) (fp : List Addr), PE (X.blk s H scope (compEnvC scope cl C X.env) fp) elt te) (hs : ∀ x, foldedSetIterable iter X.env x = pure x := by intro _; rfl) (hs1 : ∀ env x, foldedSetIterable iter1 env x = pure x := by intro _ _; rfl) :
    PE X (.SetComp elt [⟨tg, iter, ifs, 0⟩, ⟨tg1, iter1, ifs1, 0⟩] scope pos) (tSetC (fun D => SetX X.w D []) wi g tt (fun D => tIn wi1 g1 tt1 (tAddT X.w D te) vs1) (own.map (·.2))) :=
  pe_setC (work := inWork _ iter1) hc hN hi ok (setX_new X) (fun it acc env => sc2_turn0 _ _ _ _ _ _ _ _ _ _ _ _) hg ht (fun s H C cl fp D => pb_in hc rfl (fun it => sc2_turn1 _ _ _ _ _ _ _ _ _ _ _ _) (hi1 s H C cl fp) (hg1 s H C cl fp) (ht1 s H C cl fp) (pb_addT rfl (he s H C cl fp)) hv (hs1 _)) hs
end
/-- sorted of a set of texts that is tracked -/
def rSortX (w : World) : List V → Hp → VK → Prop := fun vs H Q => ∃ (a : Addr) (xs : List Str), vs = [.ref a] ∧ H a = some (SetX w a xs) ∧ xs.length ≤ 100000 ∧ ∀ (ys : List Str) (p : Addr), Rise ys → ys.Perm xs → H p = none → Q (.ref p) (upd H p (.lst (ys.map V.str)))
theorem cr_sortX {X : Cx} (hc : X.calm = true) (hu : X.A.units + 64 < cLine) : CallR X (.builtin "sorted") (rSortX X.w) := by
  intro pins s σ H vs us Q I r h
  obtain ⟨a, xs, rfl, ha, hz, q⟩ := h
  cases r with
  | cons rx rr =>
    cases rr
    cases rx
    refine tSorted (I.hok a _ ha).1 (I.ok.hd hc) hu fun s' p out c ys k g o hp hget hst hri hpm => ?_
    have hn : H p = none := I.hok.fresh hp
    have e : s' = { s with heap := s'.heap, gens := s'.gens, drawn := s'.drawn, toks := s'.toks } := by
      have o2 : s'.os = s.os := o
      obtain ⟨x1, x2, x3, x4, x5⟩ := s'; dsimp only at o2 ⊢; rw [o2]
    rw [e]
    refine ⟨.ref p, upd H p (.lst (ys.map V.str)), I.call (ch := []) (Un.laid k hp hn) (I.hok.laid k hp (show ObjOk X.prog X.w _ _ _ (.lst (ys.map V.str)) from ⟨by rw [List.length_map, hpm.length_eq, sizeLine_eq]; omega, out.toList, c, vals_of_strs hst, hget⟩)) (by rw [g]; exact I.bare) (fun _ z => nomatch z), rfl, q ys p hri hpm hn⟩
end Hid

namespace Hid
open PySem PySem.Spec PyProof.Rows L2
/-! len of a set of texts -/
def rLenX (w : World) : List V → Hp → VK → Prop := fun vs H Q => ∃ (a : Addr) (xs : List Str), vs = [.ref a] ∧ H a = some (SetX w a xs) ∧ Q (.int (xs.length : Nat)) H
theorem cr_lenX {X : Cx} : CallR X (.builtin "len") (rLenX X.w) := by
  rintro pins s σ H vs us Q I r ⟨a, xs, rfl, ha, q⟩
  obtain ⟨u, rfl, rx⟩ := vals1 r
  cases rx
  obtain ⟨o, es, ep, t, ho, hex, hd, g, pm, nd, hb, hf, hr, hl⟩ := (I.hok a _ ha).1
  have hsz : es.size = xs.length := by rw [← Array.length_toList, ← List.length_map (f := tKey), pm.length_eq]
  have hsb : scanBound ≤ 4096 := by decide
  refine PySem.call_len_set ho hex hd hf (by omega) ⟨.int (xs.length : Nat), H, I.kept (t' := s.toks + 1 + 1) fun _ _ e => e, ⟨_, by rw [hsz]⟩, q⟩
end Hid

namespace Hid
open PySem PySem.Spec PyProof.Rows L2
/-! len(set(e)), e a list or a tuple of texts -/
def tLenSetS (K : PySem.W.Frag) (te : TE) : TE := fun σ H Q => te σ H fun x H1 => ∃ (l : Addr) (xs : List Str), x = .ref l ∧ (SqL K H1 l (xs.map V.str) ∨ SqT K H1 l (xs.map V.str)) ∧ xs.length < 4000 ∧ Q (.int ((putAll [] xs).length : Nat)) H1
theorem pe_lenSetS {X : Cx} {e : Expr} {te : TE} {p p2 pos pos2 : Pos} (hc : X.calm = true) (hg : Gl X "len") (hm : X.mg "len" = none) (hg2 : Gl X "set") (hm2 : X.mg "set" = none) (he : PE X e te)
    (hs : starEach [e] X.env = (false, eval e X.env) :: starEach [] X.env := by rfl) :
    PE X (.Call (.Name "len" p) [.Call (.Name "set" p2) [e] [] pos2] [] pos) (tLenSetS X.K te) := by
  refine ⟨fun pins s σ H Q I h => ?_⟩
  refine Call_ (ld_blt I hg hm (by decide +kernel : bootBuiltins "len" = some (.builtin "len")) ?_)
  refine callWith_builtin1 (args_cons (Call_ (ld_blt I hg2 hm2 (by decide +kernel : bootBuiltins "set" = some (.type "set")) (callWith_type1 (args_cons (thn (he.run pins s σ H _ I h) fun u s1 ⟨v, H1, I1, r1, q1⟩ => args_nil ?_) hs) hs rfl))) rfl) rfl rfl
  obtain ⟨a, xs, ev, hq, hsm, q⟩ := q1
  subst ev
  obtain rfl : u = Value.ref a := r1
  have hh := I1.ok.hd hc
  have fin : ∀ (h' : Heap) (tk : Nat), SetT X.w h' s1.heap.objs.size (putAll [] xs) → (∀ b o, b < s1.heap.objs.size → s1.heap.get? b = some o → h'.get? b = some o) →
      wpAny (model X.prog X.w) X.A (call (.builtin "len") [.ref s1.heap.objs.size]) (EP X pins σ Q) X.xe { s1 with heap := h', toks := tk } := fun h' tk hS hk => by
    have I2 : Inv X pins σ H1 { s1 with heap := h', toks := tk } := I1.kept (t' := tk) fun b o e => hk b o (Heap.lt_size e) e
    obtain ⟨o, es, ep, t, ho, hex, hd, g, pm, nd, hb, hf, hr, hl⟩ := hS
    have hsz : es.size = (putAll [] xs).length := by rw [← Array.length_toList, ← List.length_map (f := tKey), pm.length_eq]
    have hsb : scanBound ≤ 4096 := by decide
    exact PySem.call_len_set (s := { s1 with heap := h', toks := tk }) ho hex hd hf (by omega) ⟨.int ((putAll [] xs).length : Nat), H1, I2.tok _, ⟨_, by rw [hsz]⟩, q⟩
  rcases hq with hq | hq
  · obtain ⟨its, rv, p', hz⟩ := I1.list hq
    obtain ⟨o0, n0, e0, c0, _, d0⟩ := p'
    exact tSetOfL hh ⟨o0, e0, c0, n0, d0⟩ (by rw [List.toList_toArray]; exact strs_of_vals rv) hsm fun h' tk hS hk => args_nil (fin h' tk hS hk)
  · obtain ⟨its, rv, p', hz⟩ := I1.tuple hq
    exact tSetOf hh p' (by rw [List.toList_toArray]; exact strs_of_vals rv) hsm fun h' tk hS hk => args_nil (fin h' tk hS hk)
end Hid

namespace Hid
open PySem PySem.Spec PyProof.Rows L2 Evl
/-! pairs of whole numbers as data -/
def encII (p : Int × Int) : PyData := .tuple [.int p.1, .int p.2]
def IIA (H : Hp) (v : V) (p : Int × Int) : Prop := ∃ t, v = .ref t ∧ H t = some (.tup [.int p.1, .int p.2])
theorem IIA.ex {H H' : Hp} {v : V} {p : Int × Int} (h : IIA H v p) (e : Ex H H') : IIA H' v p := let ⟨t, h1, h2⟩ := h; ⟨t, h1, e _ _ h2⟩
theorem IIA.dp {K : PySem.W.Frag} {H : Hp} {v : V} {p : Int × Int} (h : IIA H v p) : Dp K H v (encII p) := by
  obtain ⟨t, rfl, h2⟩ := h
  exact .tup (st_of h2) (.cons (.int _) (.cons (.int _) .nil))
theorem alike_II (p q : Int × Int) : PySem.W.alike (encII p) (encII q) = true := by simp [encII, PySem.W.alike, PySem.W.alikeAll]
theorem depth_II (p : Int × Int) : (encII p).depth ≤ 8 := by simp [encII, PyData.depth, PyData.depthAll]
/-! orders of places -/
theorem nd_inj {l : List Nat} (h : l.Nodup) {i j : Nat} (hi : i < l.length) (hj : j < l.length) (e : l[i] = l[j]) : i = j := by
  have p := List.pairwise_iff_getElem.mp h
  rcases Nat.lt_trichotomy i j with z | z | z
  · exact absurd e (p i j hi hj z)
  · exact z
  · exact absurd e.symm (p j i hj hi z)
theorem pm_of {n : Nat} {os : List Nat} (h : os.Perm (List.range n)) : Pm n (fun i => os.getD i 0) (fun i => os.idxOf i) ∧ os = (List.range n).map fun i => os.getD i 0 := by
  have hl : os.length = n := by rw [h.length_eq, List.length_range]
  have hd : os.Nodup := h.nodup_iff.mpr List.nodup_range
  have hm : ∀ i, i ∈ os ↔ i < n := fun i => by rw [h.mem_iff, List.mem_range]
  have hg : ∀ i, (hi : i < n) → os.getD i 0 = os[i]'(by omega) := fun i hi => by rw [List.getD_eq_getElem?_getD, List.getElem?_eq_getElem (by omega)]; rfl
  refine ⟨⟨fun i hi => ?_, fun i hi => ?_, fun i hi => ?_, fun i hi => ?_⟩, ?_⟩
  · show os.getD i 0 < n
    rw [hg i hi]
    exact (hm _).mp (List.getElem_mem _)
  · have := List.idxOf_lt_length_of_mem ((hm i).mpr hi)
    omega
  · have h1 := List.idxOf_lt_length_of_mem ((hm i).mpr hi)
    show os.getD (os.idxOf i) 0 = i
    rw [hg _ (by omega)]
    exact List.getElem_idxOf h1
  · show os.idxOf (os.getD i 0) = i
    rw [hg i hi]
    have h1 : os.idxOf (os[i]'(by omega)) < os.length := List.idxOf_lt_length_of_mem (List.getElem_mem _)
    have h2 : os[os.idxOf (os[i]'(by omega))] = os[i]'(by omega) := List.getElem_idxOf h1
    exact nd_inj hd h1 (by omega) h2
  · refine List.ext_getElem (by rw [List.length_map, List.length_range, hl]) fun i h1 h2 => ?_
    rw [List.getElem_map, List.getElem_range, hg i (by omega)]
theorem range_set {α : Type} {n k : Nat} {f : Nat → α} {v : α} (hk : k < n) : ((List.range n).map f).set k v = (List.range n).map fun i => if i = k then v else f i := by
  refine List.ext_getElem (by simp) fun i h1 h2 => ?_
  rw [List.getElem_set, List.getElem_map, List.getElem_range]
  rw [List.getElem_map, List.getElem_range]
  by_cases c : k = i
  · rw [if_pos c, if_pos c.symm]
  · rw [if_neg c, if_neg (Ne.symm c)]
end Hid

namespace Hid
open PySem PySem.Spec PyProof.Rows L2 Evl
/-! C.m(e, ..), C a class of the text's, m a def of its: the def itself is called -/
def tCDef (C : Addr) (sp : Sp) (dvs : List V) (E : XK) (ta : TE) (t : TA) : TE := fun σ H Q => ta σ H fun x H1 => x = .ref C ∧ t σ H1 fun vs H2 => sp (vs ++ dvs) H2 Q E
theorem pe_cdef {X : Cx} {CX : CXT} {o e : Expr} {es : List Expr} {ta : TE} {t : TA} {m : Str} {C f : Addr} {mc : Value} {fd : FuncData} {ps : List Str} {sp : Sp} {ds : List Value} {dvs : List V} {E : XK} {k : Nat} {pos apos : Pos} {pl : Sem Bool} (he : PE X o ta) (r : ClX.CRead X.K C mc) (at_ : PySem.W.findCls X.K (.ref C) mc m = some (.val (.ref f))) (F : FnOk X.prog X.w X.K X.mg X.base CX k f fd ps sp) (hr : Room k X.A) (hk : PySem.W.keepIn X.K (.ref f) = true) (hb : Binds X.K fd ps ds) (hd : Vals dvs ds) (hx : Passes CX X E) (ha : PA X (e :: es) t)
    (hst : starEach (e :: es) X.env = (false, eval e X.env) :: starEach es X.env := by rfl) (hpl : (backTo pos (starEach es X.env)).any (·.1) = false := by rfl)
    (ht : eval (.Call (.Attribute o m apos) (e :: es) [] pos) X.env = (do
      let ov ← eval o X.env
      standAt apos.atName
      let (f, first) ← holding [ov] (getMethod ov m pl)
      callWith pos f first (backTo pos (starEach (e :: es) X.env)) (backToKw pos (keywordEach [] X.env))) := by rfl) :
    PE X (.Call (.Attribute o m apos) (e :: es) [] pos) (tCDef C sp dvs E ta t) := by
  refine ⟨fun pins s σ H Q I h => ?_⟩
  refine PySem.W.methodCall_KW (pl := pl) (thn (he.run pins s σ H _ I h) fun u s1 ⟨x, H1, I1, rx, ex, q⟩ => ?_) ht
  subst ex
  obtain rfl : u = Value.ref C := rx
  refine PySem.W.method_cls I1.kIn r.ga (ClX.getcval_ok (v := .ref f) I1 r ⟨at_, rfl⟩ fun s2 I2 => ?_)
  refine PySem.W.callWith_K (h₀ := X.base) I2.ok.mod.kin hk (thn (ha.run pos pins s2 σ H1 _ I2 q) fun us s3 ⟨vs, H2, I3, r3, q2⟩ => ⟨I3.kIn, ?_⟩) hst hpl
  exact run_fn F hr hb hd hx I3 r3 q2
end Hid

namespace Hid
open PySem PySem.Spec PyProof.Rows L2
/-! an exception kept as a value behind its suite -/
def ExcH (a : Addr) (cls : Value) (d : Option Addr) (h : Heap) : Prop := ∃ oe vs, h.get? a = some oe ∧ Zc cls d oe ∧ oe.data = .fields vs
def ExcX (a : Addr) (cls : Value) (d : Option Addr) : HO := .ext (ExcH a cls d)
theorem excX_ok {Pr : Program} {w : World} {H : Hp} {h : Heap} {a : Addr} {cls : Value} {d : Option Addr} (x : ExcH a cls d h) : ObjOk Pr w H h a (ExcX a cls d) := by
  obtain ⟨oe, vs, e, z⟩ := x
  exact ⟨⟨oe, vs, e, z⟩, ⟨_, e⟩, fun h1 h2 p k => let ⟨oe, vs, e, z⟩ := p; ⟨oe, vs, k _ e, z⟩⟩
section
variable {X : Cx} {pins : List (Addr × Obj)} {σ : L2.St} {H : Hp} {s : Shared}
/-- an object that came within this def, untracked until now, is tracked -/
theorem inv_track {a : Addr} {oe : Obj} {φ : Heap → Prop} (I : Inv X ((a, oe) :: pins) σ H s) (h0 : X.s_0.heap.get? a = none) (hp : ∀ p ∈ X.pn ++ pins, p.1 ≠ a) (new : ObjOk X.prog X.w (upd H a (.ext φ)) s.heap a (.ext φ)) : Inv X pins σ (upd H a (.ext φ)) s := by
  obtain ⟨ea, na, nL, nF, nc⟩ := I.pin (a, oe) (List.mem_append_right _ List.mem_cons_self)
  have ne : ∀ {b : Addr}, b ≠ a → upd H a (.ext φ) b = H b := fun h => upd_ne h
  have nH : ∀ {b : Addr} {u : HO}, H b = some u → b ≠ a := fun {b u} e z => by rw [z, show H a = none from na] at e; cases e
  have n0 : ∀ {b : Addr} {o : Obj}, X.s_0.heap.get? b = some o → b ≠ a := fun {b o} e z => by rw [z, h0] at e; cases e
  refine ⟨I.ok, I.os, I.bare, ⟨I.base.keep, I.base.slot, fun b o e n hx => ?_, I.base.there, fun b xs e => ?_, fun b o u e => ?_, fun b ps e => ?_⟩, I.loc, I.cell, ?_, fun x c e => ?_, fun p hp' => ?_, fun b u e => ?_, I.len⟩
  · rw [ne (n0 e)]; exact I.base.free b o e n hx
  · have q := I.base.tups b xs e; rw [ne (nH q)]; exact q
  · have q := I.base.frzs b o u e; rw [ne (nH q)]; exact q
  · obtain ⟨more, q⟩ := I.base.tbls b ps e; exact ⟨more, by rw [ne (nH q)]; exact q⟩
  · rw [ne fun z => nL z.symm]; exact I.free
  · have hc : c ≠ a := fun z => by
      obtain ⟨v, o, e1, e2⟩ := I.cell x c e
      rw [z] at e1
      have e3 : some o = some oe := e1.symm.trans ea
      cases e3
      exact nc _ e2
    rw [ne hc]; exact I.freeC x c e
  · have hpa := hp p hp'
    obtain ⟨q1, q2, q3⟩ := I.pin p ((List.mem_append.mp hp').elim (fun z => List.mem_append_left _ z) fun z => List.mem_append_right _ (List.mem_cons_of_mem _ z))
    exact ⟨q1, by rw [ne hpa]; exact q2, q3⟩
  · by_cases hb : b = a
    · subst hb
      rw [upd_same] at e
      cases e
      exact new
    · rw [ne hb] at e
      exact (I.hok b u e).stay (fun c v _ q => q) (fun c q => by rw [ne (nH q)]; exact q) fun c xs q => by rw [ne (nH q)]; exact q
end
/-- what 'except x as n' wishes, the exception tracked behind it -/
def wKeep (K : PySem.W.Frag) (c : Value) (i : Nat) (ts : Addr → Value → Option Addr → TS) (Wout : WX) (D : Ends) : WX := fun cls d σ H =>
  ∃ b, PySem.W.exmOne K cls c = some b ∧ (b = true → ∀ a, H a = none → ts a cls d { nx := fun σ' H' => D.nx (σ'.set i none) (upd H' a (ExcX a cls d)), rt := fun _ _ => False, bk := fun _ _ => False, ct := fun _ _ => False } (σ.set i (some (.ref a))) H) ∧ (b = false → Wout cls d σ H)
section
variable {X : Cx} {x n : Str} {c : Value} {i : Nat} {body suite : List Stmt} {b₀ : Stmt} {np pos pos' : Pos} {tb : WX → TS} {ts : Addr → Value → Option Addr → TS} {Wout : WX}
theorem ps_try_keep (hs : X.stack = X.env :: X.outer) (hf : X.env.frame = some X.env.locals) (hex : X.ex = []) (hN : X.N.Nodup) (hi : X.N[i]? = some n) (hln : X.env.kindOf n = some .local) (hc : Names X x c) (tk : Takes X Wout)
    (hb : ∀ (W : WX) (pn : List (Addr × Obj)) (xe : Value → Shared → Prop), Takes (X.tr pn xe) W → PassesOwn (model X.prog X.w) X.A X.env xe → PSs (X.tr pn xe) body (tb W))
    (hsu : ∀ (a : Addr) (oe : Obj) (cls : Value) (d : Option Addr) (pn : List (Addr × Obj)), Zc cls d oe → (∃ vs, oe.data = .fields vs) → PSs (X.suite a ((a, oe) :: pn)) (b₀ :: suite) (ts a cls d)) :
    PS X (.Try body [.ExceptHandler (some (.Name x np)) (some n) (b₀ :: suite) pos'] [] [] pos) (fun D σ H => tb (wKeep X.K c i ts Wout D) D σ H) := by
  refine ⟨fun pins s σ H D I h => ?_⟩
  have ok := I.ok
  have hfr : X.A.frames = some (X.env :: X.outer) := by rw [ok.frames, hs]
  have hloc : Loc X.env.scope n := .inl hln
  refine wpAny_Try_except (wpAny_mono ((hb (wKeep X.K c i ts Wout D) (X.pn ++ pins) (fun e s₁ => wpAny (model X.prog X.w) X.A (noteFrame e X.env) (fun _ s₂ => wpAny (model X.prog X.w) X.A (setFlight e none) (fun _ s₃ =>
    wpAny (model X.prog X.w) X.A (handleBy e X.env [.ExceptHandler (some (.Name x np)) (some n) (b₀ :: suite) pos']) (SP X pins D) X.xe s₃) X.xe s₂) X.xe s₁) (fun u s' xx => ?_) PassesOwn.looking).run [] s σ H D (I.toTry _) h) (fun f s1 hsp => ?_) (fun e s1 he => he))
  · obtain ⟨a, B, sI, pins', σ', H', cls, d, rfl, J', nb, up, sky, na, os, ag, b, hb1, hyes, hno⟩ := xx
    have J : Inv X pins σ' H' sI := J'.ofTry ok
    have sky' : Sky B (X.env :: X.outer) a (Zc cls d) X.env.locals s'.heap := by rw [← hs]; exact sky
    show wpAny (model X.prog X.w) X.A (noteFrame (.ref a) X.env) _ _ (s' : Shared)
    refine Sky.land Zc.steady hfr hf sky' fun h3 fl3 up3 => ?_
    have J3 : Inv X pins σ' H' { s' with heap := h3 } := J.landed nb fl3.1 (up.trans up3) os ag
    obtain ⟨oe3, vs3, he3, hz3, hd3⟩ := fl3.there
    have nfr : a ∉ frs (X.env :: X.outer) := fun hm => by
      obtain ⟨_, o', e', hnf⟩ := fl3.2.2.1.mem hm
      rw [he3] at e'; cases e'
      exact hnf _ hd3
    have nL : a ≠ X.env.locals := fun z => nfr (List.mem_filterMap.mpr ⟨X.env, List.mem_cons_self, by rw [hf, z]⟩)
    have nF : a ∉ X.fs := fun hm => by
      obtain ⟨e, he, q⟩ := List.mem_filterMap.mp hm
      exact nfr (List.mem_filterMap.mpr ⟨e, List.mem_cons_of_mem _ he, q⟩)
    have hBa : B.get? a = none := fl3.2.1
    have hI : sI.heap.get? a = none := by
      cases q : sI.heap.get? a with
      | none => rfl
      | some o => rw [nb a o q (by rw [hs]; exact nfr)] at hBa; cases hBa
    have h00 : X.s_0.heap.get? a = none := by
      cases q : X.s_0.heap.get? a with
      | none => rfl
      | some o =>
        obtain ⟨o', e'⟩ := J.base.there a o q (by rw [hex]; simp)
        rw [hI] at e'; cases e'
    have hpa : ∀ p ∈ X.pn ++ pins, p.1 ≠ a := fun p hp z => by
      have e := (J.pin p hp).1
      rw [z, hI] at e; cases e
    have S3 := J3.suite he3 hd3 na nL nF
    refine wpAny_handleBy_cons (codeAny_handlers_test ?_) (by intro q; cases q)
    have LT : PySem.W.Looks (model X.prog X.w) h3 (typeOf (.ref a)) cls := fun A Q E s k q => wpAny_typeOf_ref (k _ _ he3) (by rw [hz3.1]; exact q)
    have LM := PySem.W.exm_one (M := model X.prog X.w) (J3.kIn) LT hb1
    have test : ∀ {Q : Value → Shared → Prop} {E : Value → Shared → Prop}, Q c { s' with heap := h3 } → wpAny (model X.prog X.w) (X.A.mark (some (.ref a))) (eval (.Name x np) X.env) Q E { s' with heap := h3 } := fun {Q E} q => by
      obtain ⟨hg, hdbg, hm | ⟨hm, hv, hnn⟩⟩ := hc
      · exact ld_glob (X := X.suite a ((a, oe3) :: (X.pn ++ pins))) S3 hg hm q hdbg
      · exact ld_blt (X := X.suite a ((a, oe3) :: (X.pn ++ pins))) S3 hg hm hv q hnn hdbg
    refine test (LM.here ?_)
    cases b with
    | true =>
      refine codeAny_handlers_suite_as (HandSPX.lands_againZ fl3 fun h4 fl4 up4 => ?_)
      have J4 : Inv X pins σ' H' { s' with heap := h4 } := J.landed nb fl4.1 ((up.trans up3).trans up4) os ag
      obtain ⟨oe4, vs4, he4, hz4, hd4⟩ := fl4.there
      have S4 := J4.suite he4 hd4 na nL nF
      refine store_ok (X := X.suite a ((a, oe4) :: (X.pn ++ pins))) (v := .ref a) S4 hN hi hloc rfl (fun s5 S5 => ?_) (.inr hln)
      refine wpAny_mono ((hsu a oe4 cls d (X.pn ++ pins) hz4 ⟨_, hd4⟩).run [] s5 _ H' _ S5 (hyes rfl a na)) (fun f s6 hsp => ?_) (fun _ _ z => False.elim z)
      cases f with
      | next =>
        obtain ⟨σ6, H6, S6, q6⟩ := hsp
        have P6 := S6.pin (a, oe4) (by rw [List.append_nil]; exact List.mem_cons_self)
        have J6 : Inv X ((a, oe4) :: pins) σ6 H6 s6 := (S6.unsuite ok).pins_of fun p hp => (List.mem_cons.mp hp).elim (fun z => by rw [z]; exact P6) fun z => (S6.unsuite ok).pin p (List.mem_append_right _ z)
        refine gone_ok J6 hN hi hln fun s7 J7 => ?_
        have P7 := J7.pin (a, oe4) (List.mem_append_right _ List.mem_cons_self)
        exact ⟨_, _, inv_track J7 h00 hpa (excX_ok ⟨oe4, vs4, P7.1, hz4, hd4⟩), q6⟩
      | brk => obtain ⟨_, _, _, q6⟩ := hsp; exact q6.elim
      | cont => obtain ⟨_, _, _, q6⟩ := hsp; exact q6.elim
      | ret u => obtain ⟨_, _, _, _, _, q6⟩ := hsp; exact q6.elim
    | false =>
      show wpAny _ X.A (handleBy (.ref a) X.env []) _ _ _
      refine wpAny_handleBy_nil ?_
      obtain ⟨k1, k2, k3, oe, vs, T, oT, ts', he, hz, hd, h1, hr⟩ := id fl3
      unfold PySem.passOn
      refine wpAny_bind (wpAny_field he hd h1 ?_)
      rw [if_neg (show ¬ ((Value.ref T == Value.none) = true) from by simp)]
      have fin : wpAny (model X.prog X.w) X.A (setFlight (.ref a) X.env.frame) (fun _ s4 => wpAny (model X.prog X.w) X.A (throw (.ref a) : Sem Flow) (SP X pins D) X.xe s4) X.xe { s' with heap := h3 } := by
        rw [hf]
        refine HandSPX.setFlight_upZ fl3 fun h4 hh4 up4 => wpAny_throw (tk _ _ ?_)
        exact ⟨a, B, sI, pins, σ', H', cls, d, rfl, J, nb, (up.trans up3).trans up4, .inr (.inr (by rw [hs]; exact hh4)), na, os, ag, hno rfl⟩
      first
        | exact wpAny_bind (wpAny_pure (wpAny_bind fin))
        | exact wpAny_bind fin
  · cases f with
    | next => obtain ⟨σ', H', J', q⟩ := hsp; exact wpAny_execs_nil ⟨σ', H', J'.ofTry ok, q⟩
    | brk => obtain ⟨σ', H', J', q⟩ := hsp; exact ⟨σ', H', J'.ofTry ok, q⟩
    | cont => obtain ⟨σ', H', J', q⟩ := hsp; exact ⟨σ', H', J'.ofTry ok, q⟩
    | ret u => obtain ⟨v, σ', H', J', r, q⟩ := hsp; exact ⟨v, σ', H', J'.ofTry ok, r, q⟩
/-- isinstance(e, c), e an exception that was kept -/
def rIsX (K : PySem.W.Frag) : List V → Hp → VK → Prop := fun xs H Q => ∃ (a D : Addr) (c : V) (cv : Value) (b : Bool), xs = [.ref a, c] ∧ H a = some (ExcX a (.ref D) none) ∧ ExcC K D ∧ (∀ u, RelV c u → u = cv) ∧ PySem.W.kitOne K (.ref D) cv = some b ∧ Q (.bl b) H
theorem call_isX {X : Cx} : CallR X (.builtin "isinstance") (rIsX X.K) := by
  intro pins s σ H xs us Q I r h
  obtain ⟨a, D, c, cv, b, rfl, ha, C, hcv, e, q⟩ := h
  cases r with
  | cons rx rr =>
    cases rr with
    | cons rt rr =>
      cases rr
      cases rx
      obtain rfl := hcv _ rt
      obtain ⟨⟨oe, vs, hget, hz, hv⟩, _⟩ := I.hok a _ ha
      have J : PySem.W.InstAt s.heap a oe D none := by
        obtain ⟨oc, od, oda, osl⟩ := oe
        obtain ⟨h1, h2⟩ := hz
        dsimp only at h1 h2 hv
        subst h1 h2 hv
        exact ⟨hget, rfl, rfl, trivial⟩
      exact PySem.W.kia_one (PySem.W.handS_kitx_exc C.hg C.hk C.hs C.hd C.ha C.hn C.ht C.hm) I.kIn J e (fun z => nomatch z) fun tk => ⟨.bl b, H, I.kept (t' := tk) fun _ _ z => z, rfl, q⟩
end
end Hid

namespace Hid
open PySem PySem.Spec PyProof.Rows L2
/-- C(e, ..), C an own exception class whose __init__ is a def of the text (its own or one above it) and lays no field -/
def tMk0 (C : Addr) (sp : Sp) (dvs : List V) (ta : TA) : L2.St → Hp → XK → Prop := fun σ H Q => ta σ H fun vs H1 => vs.length ≤ 1000 ∧ ∀ a, H1 a = none → sp (.ref a :: (vs ++ dvs)) (upd H1 a (exo a C none)) (fun v H2 => v = .non ∧ H2 a = some (exo a C none) ∧ Q (.ref C) none (del H2 a)) (fun _ _ _ => False)
section
variable {X : Cx} {e : Expr} {es : List Expr} {ta : TA} {p pos : Pos}
theorem mk_none {pins : List (Addr × Obj)} {σ : L2.St} {H1 H2 : Hp} {Q : XK} {hp hp2 h2 : Heap} {g1 g2 : Array GenState} {d1 d2 : Drawn} {t1 t2 : Nat} {os1 os2 : OsState} {a C : Addr} (T : Raises X (.ref C)) (I1 : Inv X pins σ H1 ⟨hp, g1, d1, t1, os1⟩)
    (ha : hp.objs.size ≤ a) (k : ∀ b o, hp.get? b = some o → hp2.get? b = some o) (un : Un (frs X.stack) [] (upd H1 a (exo a C none)) H2 hp2 h2) (hok : HOk X.prog X.w H2 h2) (ho : os2 = os1) (hb : AllBare g2)
    (ea : H2 a = some (exo a C none)) (q : Q (.ref C) none (del H2 a)) : MkP X pins σ Q (.ref a) ⟨h2, g2, d2, t2, os2⟩ := by
  obtain ⟨t0, hoe⟩ := exo_at hok ea
  have hn : H1 a = none := I1.hok.fresh ha
  obtain ⟨G, gIn, gOut⟩ := restrict h2 fun b => decide (b ≠ a)
  have gk : ∀ b, b ≠ a → G.get? b = h2.get? b := fun b hb => gIn b (decide_eq_true hb)
  have ge : G.get? a = none := gOut a (by simp)
  have nh : ∀ {b : Addr} {o : Obj}, hp.get? b = some o → b ≠ a := fun {b o} z => Nat.ne_of_lt (Nat.lt_of_lt_of_le (Heap.lt_size z) ha)
  have up : ∀ {b : Addr}, b ≠ a → H1 b = none → upd H1 a (exo a C none) b = none := fun {b} hb n => (upd_ne hb).trans n
  have U : Un (frs X.stack) [] H1 (del H2 a) hp G := by
    refine ⟨fun b o z n hf hx => ?_, fun b o z n hf hx => ?_, fun b o z n hx => ?_, fun b o z hx => ?_, fun b xs z => ?_, fun b o v z => ?_, fun b ps z => ?_⟩
    · exact (gk b (nh z)).trans (un.keep b o (k b o z) (up (nh z) n) hf hx)
    · obtain ⟨sl, w⟩ := un.slot b o (k b o z) (up (nh z) n) hf hx
      exact ⟨sl, (gk b (nh z)).trans w⟩
    · exact (del_ne (nh z)).trans (un.free b o (k b o z) (up (nh z) n) hx)
    · obtain ⟨o', w⟩ := un.there b o (k b o z) hx
      exact ⟨o', (gk b (nh z)).trans w⟩
    · exact (del_ne (ne_of_none z hn)).trans (un.tups b xs ((upd_ne (ne_of_none z hn)).trans z))
    · exact (del_ne (ne_of_none z hn)).trans (un.frzs b o v ((upd_ne (ne_of_none z hn)).trans z))
    · obtain ⟨more, w⟩ := un.tbls b ps ((upd_ne (ne_of_none z hn)).trans z)
      exact ⟨more, (del_ne (ne_of_none z hn)).trans w⟩
  have hok3 : HOk X.prog X.w (del H2 a) G := fun b o z => by
    have hba : b ≠ a := fun e => by rw [e, del_same] at z; cases z
    rw [del_ne hba] at z
    have noa : ∀ {c : Addr}, H2 c = some (.own b) → c ≠ a := fun {c} hc => at_ne ea hc exo_own
    refine (hok b o z).stay (fun c v hc y => ?_) (fun c hc => (del_ne (noa hc)).trans hc) fun c xs hc => (del_ne (at_ne ea hc exo_tup)).trans hc
    refine (gk c ?_).trans y
    rcases hc with hc | hc
    · rw [hc]; exact hba
    · exact noa hc
  have J : Inv X pins σ (del H2 a) ⟨G, g2, d2, t2, os2⟩ := I1.call' (ch := []) ho U hok3 hb fun b z => nomatch z
  refine ⟨a, _, _, ⟨G, g2, d2, t2, os2⟩, _, .ref C, none, rfl, J, fun b o z => ?_, ge, hoe, ⟨rfl, rfl⟩, rfl, rfl, del_same, rfl, hb, T, q⟩
  by_cases hba : b = a
  · rw [hba, ge] at z; cases z
  · exact (gk b hba).symm.trans z
theorem pmk_none {CX : CXT} {x : Str} {C fI : Addr} {k : Nat} {fd : FuncData} {ps : List Str} {sp : Sp} {ds : List Value} {dvs : List V} (T : OexC X.K C) (iC : PySem.W.findIn X.K (.ref C) "__init__" = some (some (.ref fI))) (tI : PySem.W.typeIn X.K (.ref fI) = some (.type "function"))
    (F1 : FnOk X.prog X.w X.K X.mg X.base CX k fI fd ps sp) (hr : Room (k + 1) X.A) (hb : Binds X.K fd ps ds) (hd : Vals dvs ds) (hx : Passes CX X (fun _ _ _ => False)) (hg : Gl X x) (hm : X.mg x = some (.ref C)) (ha : PA X (e :: es) ta)
    (hdb : (x == ("__debug__" : Str)) = false := by decide) (he : starEach (e :: es) X.env = (false, eval e X.env) :: starEach es X.env := by rfl) (hpl : (backTo pos (starEach es X.env)).any (·.1) = false := by rfl) :
    PMk X (.Call (.Name x p) (e :: es) [] pos) (tMk0 C sp dvs ta) := by
  intro pins s σ H Q I h
  obtain ⟨nm, q, N, bs, bm, sn, sub, ab, col, dd, k0, k1, k2, k3, k5, hC, hbm⟩ := T.cls
  refine wpAny_Call_Name_kw (ld_glob I hg hm (PySem.W.callWith_K (h₀ := X.base) I.ok.mod.kin T.kC (thn (ha.run pos pins s σ H _ I h) fun us s1 ⟨vs, H1, I1, r1, hz, q1⟩ => ⟨I1.kIn, ?_⟩) he hpl) hdb)
  show wpAny _ _ (call (.ref C) us) _ _ s1
  obtain ⟨hp, g, dr, tk, os⟩ := s1
  have hsz : hp.objs.size ≤ hp.objs.size + 1 := Nat.le_succ _
  have hq := q1 (hp.objs.size + 1) (I1.hok.fresh hsz)
  have kk : ∀ b o, hp.get? b = some o → ((hp.push (PySem.W.kdv_tup us)).push (PySem.HandSPX.excO C hp.objs.size)).get? b = some o := fun b o e => Heap.get?_push_of_some _ (Heap.get?_push_of_some _ e)
  have hget : ((hp.push (PySem.W.kdv_tup us)).push (PySem.HandSPX.excO C hp.objs.size)).get? (hp.objs.size + 1) = some (PySem.HandSPX.excO C hp.objs.size) := by heap_get
  have I2 : Inv X pins σ (upd H1 (hp.objs.size + 1) (exo (hp.objs.size + 1) C none)) ⟨(hp.push (PySem.W.kdv_tup us)).push (PySem.HandSPX.excO C hp.objs.size), g, dr, tk, os⟩ := I1.laid (t' := tk) (o := exo (hp.objs.size + 1) C none) kk hsz (exo_ok hget)
  have r2 : Vals (V.ref (hp.objs.size + 1) :: (vs ++ dvs)) (Value.ref (hp.objs.size + 1) :: (us ++ ds)) := .cons rfl (r1.append hd)
  have hl : (Value.ref (hp.objs.size + 1) :: us ++ ds).length = ps.length := by
    have e := r2.length
    rw [F1.len _ _ _ _ hq] at e; exact e.symm
  have hus : us.length ≤ sizeLine := by rw [← Paired.length r1, sizeLine_eq]; omega
  refine wpAny_call (PySem.HandSPX.call_own F.excBase_ValueError (fun Y => PySem.HandSPX.refsVE_contains Y bm hbm) (I1.kIn _ _ hC) (PySem.W.looks_findIn I1.kIn iC) (fun self => PySem.W.bind_fn I1.kIn self tI) hus
    (codeAny_mono (F1.run _ X.stack _ _ ⟨Value.ref (hp.objs.size + 1) :: us, []⟩ (Value.ref (hp.objs.size + 1) :: (us ++ ds)) _ _ (fun _ _ _ => False) (hr.make C us []) (I2.env0.make C us []) (hb _ (Value.ref (hp.objs.size + 1) :: us) I2.kIn hl) r2 hq) fun r s' hq' => ?_))
  cases r with
  | error er => exact hx pins σ _ _ er s' I2 hq'
  | ok fl =>
    cases fl with
    | ret u =>
      obtain ⟨v, H2, os2, bare2, un2, hok2, rv, ev, ea, q2⟩ := hq'
      subst ev
      obtain ⟨h2, g2, d2, t2, os'⟩ := s'
      exact ⟨rv, mk_none (raises_own T.exC T.tyC) I1 hsz kk un2 hok2 os2 bare2 ea q2⟩
    | next => exact False.elim hq'
    | brk => exact False.elim hq'
    | cont => exact False.elim hq'
end
end Hid

namespace Hid
open PySem PySem.Spec PyProof.Rows L2 Evl
/-- what the written part says of a class of refusals without a field -/
structure ErrC (K : PySem.W.Frag) (mg : Str → Option Value) (x : Str) (C fI : Addr) : Prop where
  oex : OexC K C
  ini : PySem.W.findIn K (.ref C) "__init__" = some (some (.ref fI))
  glob : mg x = some (.ref C)
  exc : ExcC K C
def sp_hinit (K : PySem.W.Frag) : Sp := fun vs H Q _ => ∃ (a C : Addr) (y : V), vs = [.ref a, y] ∧ OexC K C ∧ H a = some (exo a C none) ∧ Q .non H
/-- the base's __init__ -/
def HIn (P : Program) (w : World) (K : PySem.W.Frag) (mg : Str → Option Value) (base : Heap) (fI : Addr) (fd : FuncData) : Prop :=
  Binds K fd ["self", "why"] [] ∧ PySem.W.typeIn K (.ref fI) = some (.type "function") ∧ FnOk P w K mg base CX0 1 fI fd ["self", "why"] (sp_hinit K)
/-- a def that may raise, and what it promises -/
def AtX (P : Program) (w : World) (K : PySem.W.Frag) (mg : Str → Option Value) (base : Heap) (x : Str) (st : Stmt) (n : Nat) (ps : List Str) (sp : Sp) : Prop :=
  ∃ (f : Addr) (fd : FuncData), Fun K x x st f fd ∧ Binds K fd ps [] ∧ mg x = some (.ref f) ∧ FnOk P w K mg base (L2.CX P w) n f fd ps sp
section
variable {K : PySem.W.Frag} {σ : L2.St} {H : Hp} {ta tb tc : TE}
theorem ev_isX {a D : Addr} {c : V} {cv : Value} {b : Bool} (ha : Ev ta σ H (.ref a)) (hc : Ev tc σ H c) (hx : H a = some (ExcX a (.ref D) none)) (C : ExcC K D) (hcv : ∀ u, RelV c u → u = cv) (e : PySem.W.kitOne K (.ref D) cv = some b) : Ev (tCB (rIsX K) (tCons ta (tCons tc tNil))) σ H (.bl b) := fun H1 e1 Q q =>
  ha H1 e1 _ fun H2 e2 => hc H2 (e1.trans e2) _ fun H3 e3 => ⟨a, D, c, cv, b, rfl, e3 _ _ (e2 _ _ (e1 _ _ hx)), C, hcv, e, q H3 (e2.trans e3)⟩
theorem ev_isXr {a D C' : Addr} {b : Bool} (ha : Ev ta σ H (.ref a)) (hx : H a = some (ExcX a (.ref D) none)) (C : ExcC K D) (e : PySem.W.kitOne K (.ref D) (.ref C') = some b) : Ev (tCB (rIsX K) (tCons ta (tCons (tC (.ref C')) tNil))) σ H (.bl b) := ev_isX ha ev_c hx C (fun u r => r) e
theorem ev_isXt {a D : Addr} {n : String} {b : Bool} (ha : Ev ta σ H (.ref a)) (hx : H a = some (ExcX a (.ref D) none)) (C : ExcC K D) (e : PySem.W.kitOne K (.ref D) (.type n) = some b) : Ev (tCB (rIsX K) (tCons ta (tCons (tC (.ty n)) tNil))) σ H (.bl b) := ev_isX ha ev_c hx C (fun u r => r) e
theorem el_catV {l : Addr} {xs ys : List V} (ha : Ev ta σ H (.ref l)) (hx : H l = some (.lst xs)) (hb : EvL tb σ H ys) (hl : xs.length + ys.length ≤ 100000) : EvL (tOp rCat ta tb) σ H (xs ++ ys) := fun H1 e Q q =>
  ha H1 e _ fun H2 e2 => hb H2 (e.trans e2) _ fun p' H3 hp' e3 h3 => ⟨l, p', xs, ys, rfl, rfl, e3 _ _ (e2 _ _ (e _ _ hx)), h3, sz_of hl, fun r hr => q r _ (fresh_back (e2.trans e3) hr) ((e2.trans e3).trans (Ex.new hr)) upd_same⟩
end
theorem bools_dp {K : PySem.W.Frag} {H : Hp} : ∀ ns : List Bool, DpAll K H (ns.map V.bl) (ns.map PyData.bool)
  | [] => .nil
  | n :: ns => .cons (.bl n) (bools_dp ns)
theorem shaped_bools (ns : List Bool) : SeqAt.shaped (.list (ns.map PyData.bool)) = true := by
  have h1 : ∀ ns : List Bool, PyData.canLayAll0 (ns.map PyData.bool) = true := by
    intro ns
    induction ns with
    | nil => rfl
    | cons n ns ih => show (PyData.canLay0 (.bool n) && PyData.canLayAll0 (ns.map PyData.bool)) = true; rw [ih]; rfl
  have h2 : ∀ ns : List Bool, PyData.depthAll (ns.map PyData.bool) ≤ 2 := by
    intro ns
    induction ns with
    | nil => exact Nat.zero_le _
    | cons n ns ih =>
      show max (PyData.depth (.bool n)) (PyData.depthAll (ns.map PyData.bool)) ≤ 2
      have : PyData.depth (.bool n) ≤ 2 := by simp [PyData.depth]
      omega
  unfold SeqAt.shaped
  rw [Bool.and_eq_true]
  refine ⟨h1 ns, decide_eq_true ?_⟩
  have := h2 ns
  simp only [PyData.depth]
  omega
theorem eqv_bools (D : List Bool) : PyData.eqv (.list (D.map PyData.bool)) (.list (D.map PyData.bool)) = true := by
  have h : ∀ D : List Bool, PySem.W.alikeAll (D.map PyData.bool) (D.map PyData.bool) = true := by
    intro D
    induction D with
    | nil => simp [PySem.W.alikeAll]
    | cons x D ih => simpa [PySem.W.alikeAll, PySem.W.alike] using ih
  exact PySem.W.eqv_refl_alike _ (by simpa [PySem.W.alike] using h D)
end Hid

namespace Hid
open PySem PySem.Spec PyProof.Rows L2 Evl
/-! refusals with one field: the class's own __init__ calls the base's and lays the field -/
/-- __init__ of a class whose one argument becomes the field f -/
def sp_finit (K : PySem.W.Frag) (f : Str) : Sp := fun vs H Q _ => ∃ (a C : Addr) (y : V), vs = [.ref a, y] ∧ OexC K C ∧ PySem.W.findIn K (.ref C) f = some none ∧ H a = some (exo a C none) ∧
  ∀ (d : Addr) (H2 : Hp), H d = none → d ≠ a → H2 = upd (upd H d (exd d [(f, y)])) a (exo a C (some d)) → Q .non H2
structure ErrF (P : Program) (w : World) (K : PySem.W.Frag) (mg : Str → Option Value) (base : Heap) (x f : Str) (C fX : Addr) (fdX : FuncData) : Prop where
  oex : OexC K C
  ini : PySem.W.findIn K (.ref C) "__init__" = some (some (.ref fX))
  glob : mg x = some (.ref C)
  ty : PySem.W.typeIn K (.ref fX) = some (.type "function")
  fn : FnOk P w K mg base CX0 2 fX fdX ["self", f] (sp_finit K f)
  bn : Binds K fdX ["self", f] []
  nof : PySem.W.findIn K (.ref C) f = some none
section
variable {K : PySem.W.Frag} {σ : L2.St} {H : Hp} {te : TE}
theorem mk_fld {C : Addr} {f : Str} {y : V} {Q : XK} (hO : OexC K C) (hf : PySem.W.findIn K (.ref C) f = some none) (h : Ev te σ H y)
    (q : ∀ (d : Addr) (H2 : Hp), H d = none → Ex H H2 → H2 d = some (.xd [(f, y)]) → Q (.ref C) (some d) H2) : tMkO C (sp_finit K f) [] (tCons te tNil) σ H Q := h H (Ex.refl H) _ fun H1 e1 =>
  ⟨by show 1 ≤ 1000; decide, fun a na => ⟨a, C, y, rfl, hO, hf, upd_same, fun d H2 hd hda e2 => by
    subst e2
    have hd1 : H1 d = none := by rw [upd_ne hda] at hd; exact hd
    refine ⟨rfl, d, [(f, y)], upd_same, by rw [upd_ne hda]; exact upd_same, hd1, q d _ (fresh_back e1 hd1) ?_ upd_same⟩
    intro b o hb
    have hb1 := e1 _ _ hb
    have hbd : b ≠ d := fun z => by rw [z, hd1] at hb1; cases hb1
    have hba : b ≠ a := fun z => by rw [z, na] at hb1; cases hb1
    rw [upd_ne hbd, del_ne hba, upd_ne hba, upd_ne hbd, upd_ne hba]
    exact hb1⟩⟩
/-- the field read in the suite that holds the refusal -/
theorem ev_fld {a d C : Addr} {f : Str} {y : V} (h : Ev te σ H (.ref a)) (hd : H d = some (.xd [(f, y)])) : Ev (tXf a (.ref C) (some d) C f te) σ H y := fun H1 e Q q =>
  h H1 e _ fun H2 e2 => ⟨rfl, rfl, d, _, y, rfl, e2 _ _ (e _ _ hd), by simp [List.lookup], q H2 e2⟩
end
end Hid

namespace Hid
open PySem PySem.Spec PyProof.Rows L2 Evl
/-- isinstance(e, (C, ..)), e an exception that was kept -/
def rIsXT (K : PySem.W.Frag) : List V → Hp → VK → Prop := fun xs H Q => ∃ (a D p : Addr) (cs : List Addr) (b : Bool), xs = [.ref a, .ref p] ∧ H a = some (ExcX a (.ref D) none) ∧ ExcC K D ∧ H p = some (.tup (cs.map V.ref)) ∧ PySem.W.kitAny K (.ref D) (cs.map Value.ref) = some b ∧ Q (.bl b) H
theorem refs_vals : ∀ {cs : List Addr} {its : List Value}, Vals (cs.map V.ref) its → its = cs.map Value.ref
  | [], _, .nil => rfl
  | _ :: _, _, .cons rx rr => by
    cases rx
    rw [refs_vals rr]
    rfl
theorem call_isXT {X : Cx} : CallR X (.builtin "isinstance") (rIsXT X.K) := by
  intro pins s σ H xs us Q I r h
  obtain ⟨a, D, p, cs, b, rfl, ha, C, hp, e, q⟩ := h
  cases r with
  | cons rx rr =>
    cases rr with
    | cons rt rr =>
      cases rr
      cases rx
      cases rt
      obtain ⟨⟨oe, vs, hget, hz, hv⟩, _⟩ := I.hok a _ ha
      have J : PySem.W.InstAt s.heap a oe D none := by
        obtain ⟨oc, od, oda, osl⟩ := oe
        obtain ⟨h1, h2⟩ := hz
        dsimp only at h1 h2 hv
        subst h1 h2 hv
        exact ⟨hget, rfl, rfl, trivial⟩
      obtain ⟨hlen, its, hv2, ⟨⟨tc, td, tda, tsl⟩, ho, hc, n, hd⟩⟩ := I.hok p _ hp
      dsimp only at hc hd
      subst hc hd
      obtain rfl := refs_vals hv2
      exact PySem.W.kia_tup (PySem.W.handS_kitx_exc C.hg C.hk C.hs C.hd C.ha C.hn C.ht C.hm) I.kIn J ho e (fun z => nomatch z) fun tk => ⟨.bl b, H, I.kept (t' := tk) fun _ _ z => z, rfl, q⟩
/-- l.count(x), by data -/
def rCountD (K : PySem.W.Frag) : V → List V → Hp → VK → Prop := fun x xs H Q => ∃ (a : Addr) (y : V) (d : PyData) (ds : List PyData), x = V.ref a ∧ xs = [y] ∧ Dp K H (V.ref a) (.list ds) ∧ Dp K H y d ∧
  SeqAt.shaped (.list ds) = true ∧ SeqAt.shaped d = true ∧ Q (.int (ds.countP fun z => PyData.eqv z d : Nat)) H
theorem mt_countD {X : Cx} (hu : X.A.units + 65 < cLine) : MtR X "list.count" (rCountD X.K) := by
  intro pins s σ H x xs v us Q I rx rxs h
  obtain ⟨a, y, d, ds, rfl, rfl, hl, hy, sl, sd, q⟩ := h
  cases rx
  cases rxs with
  | cons ry rt =>
    rename_i uy ut
    cases rt
    obtain ⟨bs, r1⟩ := Dp.reads I d y uy hy ry
    have hxs : PyData.canLayAll0 ds = true := SeqAt.canLay_of_shaped sl
    have hroom : X.A.units + 1 + min (PyData.depthAll ds) d.depth < cLine := room_in_shaped sd hu
    cases hl with
    | lst hs ha =>
      obtain ⟨its, rv, ⟨⟨cls, dd, data, sls⟩, n, ho, hc, hdn, hdt⟩, hlen⟩ := I.list hs
      simp only at hc hdt
      subst hc hdt
      obtain ⟨as, h4⟩ := Dp.readsAll I ds _ its ha rv
      have hmap : its.map (SeqAt.readOf s.heap) = ds := SeqAt.readsAll_map ds its as hxs h4
      refine call_meets PySem.F.slot_list_count ⟨_, ho, rfl⟩ PySem.F.entry_list_count (PySem.F.args_list_count_2 _ _)
        (SeqAt.list_countAt a its.toArray n dd sls uy (fun u => PyData.eqv (SeqAt.readOf s.heap u) d)) ⟨ho, SeqAt.items_eqAt (vs := its.toArray) (show ReadsAll s.heap its.toArray.toList ds as from h4) r1 hxs (SeqAt.canLay_of_shaped sd) hroom, ?_⟩
      have ec : its.toArray.toList.countP (fun u => PyData.eqv (SeqAt.readOf s.heap u) d) = ds.countP fun z => PyData.eqv z d := by
        rw [← hmap, List.countP_map]
        rfl
      refine ⟨.int (ds.countP fun z => PyData.eqv z d : Nat), H, I.tok _, ⟨s.toks, ?_⟩, q⟩
      rw [← ec]
/-- the i-th slot holds the def at f, which may raise -/
def tCallLS (i : Nat) (f : Addr) (sp : Sp) (E : L2.St → XK) (t : TA) : TE := fun σ H Q => σ[i]? = some (some (.ref f)) ∧ t σ H fun vs H1 => sp vs H1 Q (E σ)
section
variable {X : Cx} {CX : CXT} {k i : Nat} {f : Addr} {fd : FuncData} {ps : List Str} {sp : Sp} {E : L2.St → XK} {x : Str} {p pos : Pos} {e : Expr} {es : List Expr} {t : TA} {t1 t2 : TE}
theorem pe_callLS (F : FnOk X.prog X.w X.K X.mg X.base CX k f fd ps sp) (hr : Room k X.A) (hN : X.N[i]? = some x) (hv : Vis X.env.scope x) (hk : PySem.W.keepIn X.K (.ref f) = true) (hb : Binds X.K fd ps []) (hx : ∀ σ, PassesAt CX X σ (E σ)) (ha : PA X (e :: es) t)
    (hdb : (x == ("__debug__" : Str)) = false := by decide) (hcd : (x == ("__classdict__" : Str)) = false := by decide)
    (he : starEach (e :: es) X.env = (false, eval e X.env) :: starEach es X.env := by rfl) (hpl : (backTo pos (starEach es X.env)).any (·.1) = false := by rfl) : PE X (.Call (.Name x p) (e :: es) [] pos) (tCallLS i f sp E t) := by
  refine ⟨fun pins s σ H Q I h => ?_⟩
  obtain ⟨hs, ht⟩ := h
  refine wpAny_Call_Name_kw (thn ((pe_var (pos := p) hN hv hdb hcd).run pins s σ H (fun v H1 => v = .ref f ∧ H1 = H) I ⟨.ref f, hs, rfl, rfl⟩) fun u s1 ⟨v, H1, I1, r1, q1⟩ => ?_)
  obtain ⟨rfl, rfl⟩ := q1
  cases r1
  refine PySem.W.callWith_K (h₀ := X.base) I.ok.mod.kin hk (thn (ha.run pos pins s1 σ _ _ I1 ht) fun us s2 ⟨vs, H2, I2, r, q⟩ => ⟨I2.kIn, ?_⟩) he hpl
  exact run_fnS F hr hb (hx σ) I2 r q
def tOrE (t1 t2 : TE) : TE := fun σ H Q => t1 σ H Q ∨ t2 σ H Q
theorem pe_orE {e : Expr} (h1 : PE X e t1) (h2 : PE X e t2) : PE X e (tOrE t1 t2) := ⟨fun pins s σ H Q I h => h.elim (fun z => h1.run pins s σ H Q I z) fun z => h2.run pins s σ H Q I z⟩
end
/-- a def at an address that may raise, and what it promises -/
def HeldX (P : Program) (w : World) (K : PySem.W.Frag) (mg : Str → Option Value) (base : Heap) (k : Nat) (f : Addr) (ps : List Str) (sp : Sp) : Prop := ∃ fd, FnOk P w K mg base (L2.CX P w) k f fd ps sp ∧ PySem.W.keepIn K (.ref f) = true ∧ Binds K fd ps []
section
variable {K : PySem.W.Frag} {σ : L2.St} {H : Hp} {ta : TE} {tc : TA}
theorem ev_isXT {a D : Addr} {cs : List Addr} {b : Bool} (ha : Ev ta σ H (.ref a)) (hc : EvA tc σ H (cs.map V.ref)) (hl : cs.length ≤ 100) (hx : H a = some (ExcX a (.ref D) none)) (C : ExcC K D) (e : PySem.W.kitAny K (.ref D) (cs.map Value.ref) = some b) : Ev (tCB (rIsXT K) (tCons ta (tCons (tTup tc) tNil))) σ H (.bl b) := fun H1 e1 Q q =>
  ha H1 e1 _ fun H2 e2 => (eu_tup hc (by rw [List.length_map]; omega)) H2 (e1.trans e2) _ fun p H3 np e3 h3 => ⟨a, D, p, cs, b, rfl, e3 _ _ (e2 _ _ (e1 _ _ hx)), C, h3, e, q H3 (e2.trans e3)⟩
end
end Hid
namespace Hid
open L2
theorem u65 {k : Nat} {A : PySem.Around} (r : Room k A) : A.units + 65 < PySem.cLine := by have := r.un; omega
end Hid

namespace Hid
open PySem PySem.Spec PyProof.Rows L2 Evl
open L2H (RoomH PinOk cxH inv_startH)
/-! defs called from an except suite, with the refusal that the suite holds among what they are handed: p is that refusal -/
structure FnP (P : Program) (w : World) (K : PySem.W.Frag) (mg : Str → Option Value) (base : Heap) (k : Nat) (f : Addr) (fd : FuncData) (ps : List Str) (sp : Addr × Obj → Sp) : Prop where
  len : ∀ p vs H Q, sp p vs H Q E0 → vs.length = ps.length
  run : ∀ (A : Around) (outer : List Env) (s : Shared) (H : Hp) (us : List Value) (vs : List V) (Q : VK) (p : Addr × Obj), RoomH k A → PinOk outer H s p → Env0 P w K mg base A outer s H →
    BindsTo s fd ⟨us, []⟩ (ps.zip us) → Vals vs us → sp p vs H Q E0 → codeAny (model P w) A (.call (.ref f) ⟨us, []⟩) (CR CX0 outer P w H s Q E0) s
def AtP (P : Program) (w : World) (K : PySem.W.Frag) (mg : Str → Option Value) (base : Heap) (x : Str) (st : Stmt) (n : Nat) (ps : List Str) (sp : Addr × Obj → Sp) : Prop :=
  ∃ (f : Addr) (fd : FuncData), Fun K x x st f fd ∧ Binds K fd ps [] ∧ mg x = some (.ref f) ∧ FnP P w K mg base n f fd ps sp
theorem rmH {k : Nat} {A : Around} {v : Option Value} (r : Room k A) : RoomH k (A.mark v) := ⟨r.dp, r.un⟩
section
variable {P : Program} {w : World} {K : PySem.W.Frag} {mg : Str → Option Value} {base : Heap}
theorem okP {x qual : Str} {st : Stmt} {f : Addr} {fd : FuncData} {N ps : List Str} {k : Nat} {sp : Addr × Obj → Sp} (F : Fun K x qual st f fd) (S : FnScope N ps (defScope st)) (len : ∀ p vs H Q, sp p vs H Q E0 → vs.length = ps.length)
    (body : ∀ (cdv : Value) (A : Around) (outer : List Env) (s : Shared) (H : Hp) (vs : List V) (Q : VK) (p : Addr × Obj), RoomH k (A.deeper (envOfC qual (defScope st) s.heap.objs.size f cdv)) → sp p vs H Q E0 →
      ∃ t, PSs (cxH CX0 P w K mg base N qual (defScope st) f cdv A outer s H E0 p) (defBody st) t ∧ t { nx := fun _ H' => Q .non H', rt := Q } (L2.start N vs) H) : FnP P w K mg base (k + 1) f fd ps sp := by
  obtain ⟨oc, od, kV, doc, pm, an, cdv, ct, osl, rfl, lk, hcd⟩ := F.ex
  refine ⟨len, fun A outer s H us vs Q p hr pin e0 hb r h => ?_⟩
  have nl := len _ _ _ _ h
  have kin : K.In s.heap := e0.mod.kin.keeps fun b o z => (e0.bs b o z).1
  have nolim : s.heap.NoLimit := e0.mod.nolimit.keeps fun b o z => (e0.bs b o z).1
  refine codeAny_call_function hr.depth (kin _ _ lk) rfl S.co S.gen rfl (PySem.W.codeRec_of kin hcd) (hb _ _ _ _ (wpAny_newFunctionEnv_cells S.kind (fun y hy => ?_) fun env he s1 x => ?_))
  · exact (S.par y.1 (List.of_mem_zip (show (y.1, y.2) ∈ ps.zip us from hy)).1).elim .inl fun z => .inr ⟨z, PySem.W.cellsFrom_some _ _ _ (.inl z)⟩
  · subst he
    obtain ⟨t, ht, q⟩ := body cdv A outer s H vs Q p (hr.deeper _) h
    have J := inv_startH (CX := CX0) (P := P) (w := w) (K := K) (mg := mg) (base := base) (N := N) (f := f) (A := A) (E := E0) S pin e0 nl r x
    refine ⟨nolim.keeps x.toInCall.keep, codeAny_func (wpAny_mono (ht.run [] s1 (L2.start N vs) H _ J q) (fun fl s' z => ?_) fun e s' z => z)⟩
    cases fl with
    | ret u => obtain ⟨v, σ', H', J', rv, q'⟩ := z; exact ⟨v, H', J'.os, J'.bare, J'.base, J'.hok, rv, q'⟩
    | next => obtain ⟨σ', H', J', q'⟩ := z; exact ⟨V.non, H', J'.os, J'.bare, J'.base, J'.hok, rfl, q'⟩
    | brk => exact z.elim fun _ z => z.elim fun _ z => z.2.elim
    | cont => exact z.elim fun _ z => z.elim fun _ z => z.2.elim
end
def tCallP (sp : Addr × Obj → Sp) (a : Addr) (cls : Value) (d : Option Addr) (t : TA) : TE := fun σ H Q => t σ H fun vs H1 => ∀ oe : Obj, Zc cls d oe → (∃ us, oe.data = .fields us) → sp (a, oe) vs H1 Q E0
section
variable {X : Cx} {k : Nat} {f : Addr} {fd : FuncData} {ps : List Str} {sp : Addr × Obj → Sp} {x : Str} {q pos : Pos} {e : Expr} {es : List Expr} {t : TA} {a : Addr} {oe : Obj} {cls : Value} {d : Option Addr}
theorem pe_callP (F : FnP X.prog X.w X.K X.mg X.base k f fd ps sp) (hr : RoomH k X.A) (hp : (a, oe) ∈ X.pn) (hz : Zc cls d oe) (hf : ∃ us, oe.data = .fields us) (hg : Gl X x) (hm : X.mg x = some (.ref f)) (hk : PySem.W.keepIn X.K (.ref f) = true) (hb : Binds X.K fd ps [])
    (ha : PA X (e :: es) t) (hdb : (x == ("__debug__" : Str)) = false := by decide) (he : starEach (e :: es) X.env = (false, eval e X.env) :: starEach es X.env := by rfl) (hpl : (backTo pos (starEach es X.env)).any (·.1) = false := by rfl) :
    PE X (.Call (.Name x q) (e :: es) [] pos) (tCallP sp a cls d t) := by
  refine ⟨fun pins s σ H Q I h => wpAny_Call_Name_kw (ld_glob I hg hm (PySem.W.callWith_K (h₀ := X.base) I.ok.mod.kin hk (thn (ha.run pos pins s σ H _ I h) fun us s1 ⟨vs, H1, I1, r, q0⟩ => ⟨I1.kIn, ?_⟩) he hpl) hdb)⟩
  have q1 := q0 oe hz hf
  have b := hb s1 us I1.kIn (by rw [List.append_nil, ← r.length]; exact F.len _ _ _ _ q1)
  rw [List.append_nil] at b
  obtain ⟨g1, g2, g3, g4, g5⟩ := I1.pin (a, oe) (List.mem_append_left _ hp)
  refine wpAny_call (codeAny_mono (F.run X.A X.stack s1 H1 us vs Q (a, oe) hr ⟨g1, g2, fun z => (List.mem_cons.mp (I1.stkSub a z)).elim g3 g4, g5⟩ I1.env0 b r q1) fun r' s' z => ?_)
  cases r' with
  | error er => exact z.elim
  | ok fl =>
    cases fl with
    | ret u => exact I1.after z
    | next => exact z.elim
    | brk => exact z.elim
    | cont => exact z.elim
end
/-! what the refusal's own dict is: none, or one that is told -/
def DxOk (d : Option Addr) (H : Hp) : Prop := d = none ∨ ∃ dd fs, d = some dd ∧ H dd = some (.xd fs)
theorem DxOk.ex {d : Option Addr} {H H' : Hp} (h : DxOk d H) (e : Ex H H') : DxOk d H' := h.imp id fun ⟨dd, fs, h1, h2⟩ => ⟨dd, fs, h1, e _ _ h2⟩
theorem inst_of {X : Cx} {a D : Addr} {oe : Obj} {d : Option Addr} {pins : List (Addr × Obj)} {σ : L2.St} {H : Hp} {s : Shared} (hp : (a, oe) ∈ X.pn) (hz : Zc (.ref D) d oe) (hf : ∃ vs, oe.data = .fields vs) (I : Inv X pins σ H s) (hd : DxOk d H) :
    ∃ od, PySem.W.InstAt s.heap a oe D od := by
  obtain ⟨g1, _⟩ := I.pin (a, oe) (List.mem_append_left _ hp)
  obtain ⟨vs, hv⟩ := hf
  have nc : PySem.W.notCls oe = true := by unfold PySem.W.notCls; rw [hv] <;> rfl
  rcases hd with rfl | ⟨dd, fs, rfl, hx⟩
  · exact ⟨none, g1, hz.1, nc, by rw [hz.2]; exact trivial⟩
  · have ox : ObjOk X.prog X.w H s.heap dd (.xd fs) := I.hok dd _ hx
    obtain ⟨mA, hns, _⟩ := ox
    obtain ⟨od, ho, _⟩ := lookIn_ns hns
    exact ⟨some od, g1, hz.1, nc, by rw [hz.2]; exact ho⟩
def rIsP (K : PySem.W.Frag) (cls : Value) (d : Option Addr) (a : Addr) : List V → Hp → VK → Prop := fun xs H Q => ∃ (D : Addr) (c : V) (cv : Value) (b : Bool), (cls = .ref D ∧ ExcC K D ∧ DxOk d H) ∧ xs = [.ref a, c] ∧ (∀ u, RelV c u → u = cv) ∧ PySem.W.kitOne K (.ref D) cv = some b ∧ Q (.bl b) H
def rIsPT (K : PySem.W.Frag) (cls : Value) (d : Option Addr) (a : Addr) : List V → Hp → VK → Prop := fun xs H Q => ∃ (D p : Addr) (cs : List Addr) (b : Bool), (cls = .ref D ∧ ExcC K D ∧ DxOk d H) ∧ xs = [.ref a, .ref p] ∧ H p = some (.tup (cs.map V.ref)) ∧ PySem.W.kitAny K (.ref D) (cs.map Value.ref) = some b ∧ Q (.bl b) H
theorem kit_of {K : PySem.W.Frag} {D : Addr} {x : Addr} {ox : Obj} {od : Option Obj} (C : ExcC K D) : PySem.W.KitX K (.ref x) (.ref D) (fun h => PySem.W.InstAt h x ox D od) :=
  PySem.W.kitx_exc (by obtain ⟨cd, hc, _⟩ := PySem.W.any_some C.hd; rw [hc]; rfl) C.hg C.hk C.hs C.ha C.hn C.ht C.hm
theorem call_isP {X : Cx} {a : Addr} {cls : Value} {d : Option Addr} {oe : Obj} (hp : (a, oe) ∈ X.pn) (hz : Zc cls d oe) (hf : ∃ vs, oe.data = .fields vs) : CallR X (.builtin "isinstance") (rIsP X.K cls d a) := by
  intro pins s σ H xs us Q I r h
  obtain ⟨D, c, cv, b, ⟨rfl, C, hd⟩, rfl, hcv, e, q⟩ := h
  match us, r with
  | [_, u], .cons rx (.cons rt .nil) =>
    cases rx
    obtain rfl := hcv _ rt
    obtain ⟨od, J⟩ := inst_of hp hz hf I hd
    exact PySem.W.kia_one (kit_of C) I.kIn J e (fun z => nomatch z) fun tk => ⟨.bl b, H, I.kept (t' := tk) fun _ _ z => z, rfl, q⟩
theorem call_isPT {X : Cx} {a : Addr} {cls : Value} {d : Option Addr} {oe : Obj} (hp : (a, oe) ∈ X.pn) (hz : Zc cls d oe) (hf : ∃ vs, oe.data = .fields vs) : CallR X (.builtin "isinstance") (rIsPT X.K cls d a) := by
  intro pins s σ H xs us Q I r h
  obtain ⟨D, p, cs, b, ⟨rfl, C, hd⟩, rfl, ht, e, q⟩ := h
  match us, r with
  | [_, u], .cons rx (.cons rt .nil) =>
    cases rx
    cases rt
    obtain ⟨od, J⟩ := inst_of hp hz hf I hd
    obtain ⟨hlen, its, hv2, ⟨⟨tc, td, tda, tsl⟩, ho, hc, n, hdt⟩⟩ := I.hok p _ ht
    dsimp only at hc hdt
    subst hc hdt
    obtain rfl := refs_vals hv2
    exact PySem.W.kia_tup (kit_of C) I.kIn J ho e (fun z => nomatch z) fun tk => ⟨.bl b, H, I.kept (t' := tk) fun _ _ z => z, rfl, q⟩
/-- e.f, e the refusal -/
theorem pe_fldP {X : Cx} {a C : Addr} {oe : Obj} {cls : Value} {d : Option Addr} {e : Expr} {te : TE} {pos : Pos} {n : Str} (T : XfC X.K C) (hno : PySem.W.findIn X.K (.ref C) n = some none) (hp : (a, oe) ∈ X.pn)
    (hz : Zc cls d oe) (hf : ∃ vs, oe.data = .fields vs) (he : PE X e te) (hb : attributeBase e n X.env (eval e X.env) = eval e X.env := by rfl) : PE X (.Attribute e n pos) (tXf a cls d C n te) := by
  refine ⟨fun pins s σ H Q I h => attr_of hb (thn (he.run pins s σ H _ I h) fun u s1 z => ?_)⟩
  obtain ⟨x, H1, I1, rx, rfl, rfl, dd, fs, v, rfl, ea, l, q⟩ := z
  obtain rfl : u = Value.ref a := rx
  obtain ⟨g1, _⟩ := I1.pin (a, oe) (List.mem_append_left _ hp)
  obtain ⟨vs, hv⟩ := hf
  have ox : ObjOk X.prog X.w H1 s1.heap dd (.xd fs) := I1.hok dd _ ea
  obtain ⟨mA, hns, hr⟩ := ox
  obtain ⟨od, ho, hl⟩ := lookIn_ns hns
  obtain ⟨u, hu, ru⟩ := RelO.some_of (v := v) (o := mA n) (by rw [← l]; exact hr n)
  exact HandSPX.exc_get I1.kIn (⟨g1, hz.1, (by unfold PySem.W.notCls; rw [hv] <;> rfl), by rw [hz.2]; exact ho⟩ : PySem.W.InstAt s1.heap a oe C (some od)) T.ga T.gg T.exC (PySem.W.findObj_own T.hdC hno rfl (by rw [hl, hu])) (handed_of ru) ⟨v, H1, I1.tok _, ru, q⟩
section
variable {K : PySem.W.Frag} {σ : L2.St} {H : Hp} {ta tb tc : TE} {a D : Addr} {d : Option Addr}
theorem ev_isP {c : V} {cv : Value} {b : Bool} (ha : Ev ta σ H (.ref a)) (hc : Ev tc σ H c) (C : ExcC K D) (hd : DxOk d H) (hcv : ∀ u, RelV c u → u = cv) (e : PySem.W.kitOne K (.ref D) cv = some b) : Ev (tCB (rIsP K (.ref D) d a) (tCons ta (tCons tc tNil))) σ H (.bl b) := fun H1 e1 Q q =>
  ha H1 e1 _ fun H2 e2 => hc H2 (e1.trans e2) _ fun H3 e3 => ⟨D, c, cv, b, ⟨rfl, C, hd.ex (e1.trans (e2.trans e3))⟩, rfl, hcv, e, q H3 (e2.trans e3)⟩
theorem ev_isPr {C' : Addr} {b : Bool} (ha : Ev ta σ H (.ref a)) (C : ExcC K D) (hd : DxOk d H) (e : PySem.W.kitOne K (.ref D) (.ref C') = some b) : Ev (tCB (rIsP K (.ref D) d a) (tCons ta (tCons (tC (.ref C')) tNil))) σ H (.bl b) := ev_isP ha ev_c C hd (fun u r => r) e
theorem ev_isPt {n : String} {b : Bool} (ha : Ev ta σ H (.ref a)) (C : ExcC K D) (hd : DxOk d H) (e : PySem.W.kitOne K (.ref D) (.type n) = some b) : Ev (tCB (rIsP K (.ref D) d a) (tCons ta (tCons (tC (.ty n)) tNil))) σ H (.bl b) := ev_isP ha ev_c C hd (fun u r => r) e
theorem ev_isPT {ts : TA} {cs : List Addr} {b : Bool} (ha : Ev ta σ H (.ref a)) (ht : EvA ts σ H (cs.map V.ref)) (hl : cs.length ≤ 100) (C : ExcC K D) (hd : DxOk d H) (e : PySem.W.kitAny K (.ref D) (cs.map Value.ref) = some b) : Ev (tCB (rIsPT K (.ref D) d a) (tCons ta (tCons (tTup ts) tNil))) σ H (.bl b) := fun H1 e1 Q q =>
  ha H1 e1 _ fun H2 e2 => (eu_tup ht (by rw [List.length_map]; omega)) H2 (e1.trans e2) _ fun p H3 np e3 h3 => ⟨D, p, cs, b, ⟨rfl, C, hd.ex (e1.trans (e2.trans e3))⟩, rfl, h3, e, q H3 (e2.trans e3)⟩
theorem ev_callP {sp : Addr × Obj → Sp} {cls : Value} {ts : TA} {vs : List V} {z : V} (h : EvA ts σ H vs) (hs : ∀ H1, Ex H H1 → ∀ oe : Obj, Zc cls d oe → (∃ us, oe.data = .fields us) → ∀ Q : VK, (∀ H2, Ex H1 H2 → Q z H2) → sp (a, oe) vs H1 Q E0) : Ev (tCallP sp a cls d ts) σ H z := fun H1 e Q q =>
  h H1 e _ fun H2 e2 oe hz hf => hs H2 (e.trans e2) oe hz hf _ fun H3 e3 => q H3 (e2.trans e3)
end
end Hid

namespace Hid
open PySem PySem.Spec PyProof.Rows L2 Evl
/-! ways on trees -/
def StW (S : List (List Nat)) (n : Nat) (r a b : List Nat) : Prop := ∃ i, Tie S n a b i ∧ aT a i ≠ aT r i
def Way (S : List (List Nat)) (n : Nat) (r : List Nat) : List Nat → List (List Nat) → Prop
  | a, [] => a = r
  | a, b :: l => StW S n r a b ∧ Way S n r b l
def wpL : List Nat → List (List Nat) → List Nat
  | _, [] => []
  | a, b :: l => unl a b ++ wpL b l
section
variable {S : List (List Nat)} {n : Nat}
theorem ny_two {a b c : Nat} (ha : NY a) (hb : NY b) (hc : NY c) (h1 : a ≠ b) (h2 : a ≠ c) : b = c := by
  rcases ha with z | z <;> rcases hb with y | y <;> rcases hc with x | x <;> omega
theorem st_det (hs : HS S n) {r a b b' : List Nat} (hr : Kn S n r) (h : StW S n r a b) (h' : StW S n r a b') : b = b' := by
  obtain ⟨i, t, e⟩ := h
  obtain ⟨j, t', e'⟩ := h'
  have sp := far_one hs hr t t' e e'
  have t2 := t'.at_ t.2.2.1 sp.symm
  exact (tie_uniq hs t t2 rfl).2
theorem st_ex (hs : HS S n) {r a : List Nat} (ha : Kn S n a) (hr : Kn S n r) (h : a ≠ r) : ∃ b, StW S n r a b := by
  obtain ⟨i, hi, e, hk⟩ := step_to hs ha hr h
  exact ⟨_, i, tie_fl ha hi hk, e⟩
theorem st_or {r a b : List Nat} {i : Nat} (hr : Kn S n r) (h : Tie S n a b i) : StW S n r a b ∨ StW S n r b a := by
  by_cases c : aT a i = aT r i
  · exact .inr ⟨i, h.symm, fun z => h.ne (c.trans z.symm)⟩
  · exact .inl ⟨i, h, c⟩
theorem st_r {r b : List Nat} (h : StW S n r r b) : False := let ⟨_, _, e⟩ := h; e rfl
theorem st_kn {r a b : List Nat} (h : StW S n r a b) : Kn S n a ∧ Kn S n b := let ⟨_, t, _⟩ := h; ⟨t.1, t.2.1⟩
theorem tie_is_fl {a b : List Nat} {i : Nat} (h : Tie S n a b i) : b = fl S n a i := by
  refine half_ext h.2.1.1 (fl_half h.1.1 i) fun j hj => ?_
  rw [fl_at hj]
  have := h.2.2.2 j hj
  split
  · rename_i c
    exact ny_tn (aT_ny h.1.1 hj) (aT_ny h.2.1.1 hj) (this.mpr c)
  · rename_i c
    exact (Classical.byContradiction fun z => c (this.mp fun y => z y.symm))
theorem st_dif (hs : HS S n) {r a b : List Nat} (hr : Kn S n r) (h : StW S n r a b) : dif n b r < dif n a r := by
  obtain ⟨i, t, e⟩ := h
  rw [tie_is_fl t]
  exact dif_fl hs t.1 hr t.2.2.1 e
theorem way_uniq (hs : HS S n) {r : List Nat} (hr : Kn S n r) : ∀ {l l' : List (List Nat)} {a : List Nat}, Way S n r a l → Way S n r a l' → l = l'
  | [], [], _, _, _ => rfl
  | [], b :: l', a, h, h' => by
    have h : a = r := h
    rw [h] at h'
    exact (st_r h'.1).elim
  | b :: l, [], a, h, h' => by
    have h' : a = r := h'
    rw [h'] at h
    exact (st_r h.1).elim
  | b :: l, b' :: l', a, h, h' => by
    have e := st_det hs hr h.1 h'.1
    subst e
    rw [way_uniq hs hr h.2 h'.2]
theorem way_ex (hs : HS S n) {r : List Nat} (hr : Kn S n r) : ∀ (m : Nat) {a : List Nat}, dif n a r ≤ m → Kn S n a → ∃ l, Way S n r a l
  | m, a, hm, ha => by
    by_cases c : a = r
    · exact ⟨[], c⟩
    · obtain ⟨b, hb⟩ := st_ex hs ha hr c
      have hd := st_dif hs hr hb
      cases m with
      | zero => omega
      | succ m =>
        obtain ⟨l, hl⟩ := way_ex hs hr m (by omega) (st_kn hb).2
        exact ⟨b :: l, hb, hl⟩
theorem way_kn {r : List Nat} : ∀ {l : List (List Nat)} {a : List Nat}, Kn S n a → Way S n r a l → ∀ x ∈ a :: l, Kn S n x
  | [], a, ha, _, x, hx => by rw [List.mem_singleton.mp hx]; exact ha
  | b :: l, a, ha, h, x, hx => by
    rcases List.mem_cons.mp hx with z | z
    · rw [z]; exact ha
    · exact way_kn (st_kn h.1).2 h.2 x z
theorem way_dif (hs : HS S n) {r : List Nat} (hr : Kn S n r) : ∀ {l : List (List Nat)} {a : List Nat}, Way S n r a l → ∀ x ∈ l, dif n x r < dif n a r
  | [], _, _, _, hx => nomatch hx
  | b :: l, a, h, x, hx => by
    have h1 := st_dif hs hr h.1
    rcases List.mem_cons.mp hx with z | z
    · rw [z]; exact h1
    · exact Nat.lt_trans (way_dif hs hr h.2 x z) h1
theorem way_nodup (hs : HS S n) {r : List Nat} (hr : Kn S n r) : ∀ {l : List (List Nat)} {a : List Nat}, Way S n r a l → (a :: l).Nodup
  | [], _, _ => by simp
  | b :: l, a, h => List.nodup_cons.mpr ⟨fun z => Nat.lt_irrefl _ (way_dif hs hr h a z), way_nodup hs hr h.2⟩
theorem dif_le (a r : List Nat) : dif n a r ≤ n := by
  unfold dif
  have := List.countP_le_length (p := fun i => decide (aT a i ≠ aT r i)) (l := List.range n)
  rwa [List.length_range] at this
theorem way_len (hs : HS S n) {r : List Nat} (hr : Kn S n r) : ∀ {l : List (List Nat)} {a : List Nat}, Way S n r a l → l.length ≤ dif n a r
  | [], _, _ => Nat.zero_le _
  | b :: l, a, h => by
    have h1 := st_dif hs hr h.1
    have h2 := way_len hs hr h.2
    rw [List.length_cons]
    omega
theorem way_last {r : List Nat} : ∀ {l : List (List Nat)} {a : List Nat}, Way S n r a l → ∃ f, a :: l = f ++ [r]
  | [], a, h => ⟨[], by rw [show a = r from h]; rfl⟩
  | b :: l, a, h => by
    obtain ⟨f, e⟩ := way_last h.2
    exact ⟨a :: f, by rw [e]; rfl⟩
theorem unl_nodup (a b : List Nat) : (unl a b).Nodup := by
  unfold unl
  exact List.nodup_range.filter _
theorem way_perm (hs : HS S n) {r : List Nat} (hr : Kn S n r) : ∀ {l : List (List Nat)} {a : List Nat}, Kn S n a → Way S n r a l → (wpL a l).Perm (unl a r)
  | [], a, ha, h => by
    rw [show a = r from h]
    have : unl r r = [] := by
      unfold unl
      exact List.filter_eq_nil_iff.mpr fun i _ => by simp
    rw [this]
    exact List.Perm.refl _
  | b :: l, a, ha, h => by
    obtain ⟨i, t, e⟩ := h.1
    have ih := way_perm hs hr t.2.1 h.2
    refine (List.Perm.append_left _ ih).trans ?_
    have key : ∀ j, j < n → (SpE S i j → aT a j ≠ aT r j ∧ aT b j = aT r j) := fun j hj sp => by
      have h1 : aT a j ≠ aT r j := fun z => e ((sp_eq ha hr t.2.2.1 hj sp).mpr z)
      have h2 := (t.2.2.2 j hj).mpr sp
      exact ⟨h1, ny_two (aT_ny ha.1 hj) (aT_ny t.2.1.1 hj) (aT_ny hr.1 hj) h2 h1⟩
    refine (List.perm_ext_iff_of_nodup (List.nodup_append.mpr ⟨unl_nodup _ _, unl_nodup _ _, fun x hx y hy e2 => ?_⟩) (unl_nodup _ _)).mpr fun j => ?_
    · subst e2
      have hx := (unl_mem ha.1.1).mp hx
      have hy := (unl_mem t.2.1.1.1).mp hy
      exact hy.2 (key x hx.1 ((t.2.2.2 x hx.1).mp hx.2)).2
    · rw [List.mem_append, unl_mem ha.1.1, unl_mem t.2.1.1.1, unl_mem ha.1.1]
      constructor
      · rintro (⟨hj, h2⟩ | ⟨hj, h2⟩)
        · exact ⟨hj, (key j hj ((t.2.2.2 j hj).mp h2)).1⟩
        · refine ⟨hj, fun z => ?_⟩
          by_cases c : aT a j = aT b j
          · exact h2 (c.symm.trans z)
          · exact (key j hj ((t.2.2.2 j hj).mp c)).1 z
      · rintro ⟨hj, h2⟩
        by_cases c : aT a j = aT b j
        · exact .inr ⟨hj, fun z => h2 (c.trans z)⟩
        · exact .inl ⟨hj, c⟩
theorem way_back (hs : HS S n) {r one : List Nat} (hr : Kn S n r) (ho : Kn S n one) : ∀ {l : List (List Nat)} {b : List Nat} {acc : List (List Nat)}, Kn S n b → Way S n r b l → Way S n one b acc → (∀ j, j < n → aT b j ≠ aT r j → aT b j = aT one j) → ∃ l', (b :: l).reverse ++ acc = r :: l' ∧ Way S n one r l'
  | [], b, acc, hb, h, ha, inv => ⟨acc, by rw [show b = r from h]; rfl, by rw [← show b = r from h]; exact ha⟩
  | c :: l, b, acc, hb, h, ha, inv => by
    obtain ⟨i, t, e⟩ := h.1
    have hc := t.2.1
    have st : StW S n one c b := ⟨i, t.symm, fun z => t.ne ((inv i t.2.2.1 e).trans z.symm)⟩
    have key : ∀ j, j < n → (SpE S i j → aT c j = aT r j) := fun j hj sp => by
      have h1 : aT b j ≠ aT r j := fun z => e ((sp_eq hb hr t.2.2.1 hj sp).mpr z)
      exact ny_two (aT_ny hb.1 hj) (aT_ny hc.1 hj) (aT_ny hr.1 hj) ((t.2.2.2 j hj).mpr sp) h1
    obtain ⟨l', e1, e2⟩ := way_back hs hr ho (acc := b :: acc) hc h.2 ⟨st, ha⟩ fun j hj h2 => by
      by_cases sp : SpE S i j
      · exact absurd (key j hj sp) h2
      · have eq : aT b j = aT c j := Classical.byContradiction fun z => sp ((t.2.2.2 j hj).mp z)
        rw [← eq] at h2 ⊢
        exact inv j hj h2
    refine ⟨l', ?_, e2⟩
    rw [← e1, List.reverse_cons (a := b), List.append_assoc]
    rfl
theorem way_rev (hs : HS S n) {r a : List Nat} (hr : Kn S n r) (ha : Kn S n a) {l : List (List Nat)} (h : Way S n r a l) : ∃ l', (a :: l).reverse = r :: l' ∧ Way S n a r l' := by
  obtain ⟨l', e, w⟩ := way_back hs hr ha (acc := []) ha h rfl fun j _ _ => rfl
  exact ⟨l', by rw [← e, List.append_nil], w⟩
/-! the knots beside one -/
def nbA (k : List Nat) (p : Tp) : List (List Nat) := if p.1 = k then [p.2] else if p.2 = k then [p.1] else []
theorem nb_mem (hs : HS S n) {h0 : List Nat} (h0m : h0 ∈ S) {k b : List Nat} : b ∈ (tiL S h0 (knL S n)).flatMap (nbA k) ↔ ∃ i, Tie S n k b i := by
  rw [List.mem_flatMap]
  constructor
  · rintro ⟨p, hp, hb⟩
    obtain ⟨hl, i, t⟩ := (tiL_mem hs h0m).mp hp
    unfold nbA at hb
    split at hb
    · rename_i c
      rw [List.mem_singleton.mp hb, ← c]
      exact ⟨i, t⟩
    · split at hb
      · rename_i c
        rw [List.mem_singleton.mp hb, ← c]
        exact ⟨i, t.symm⟩
      · cases hb
  · rintro ⟨i, t⟩
    rcases tie_le t with l | l
    · exact ⟨(k, b), (tiL_mem hs h0m).mpr ⟨l, i, t⟩, by unfold nbA; rw [if_pos rfl]; exact List.mem_singleton.mpr rfl⟩
    · refine ⟨(b, k), (tiL_mem hs h0m).mpr ⟨l, i, t.symm⟩, ?_⟩
      unfold nbA
      rw [if_neg fun e => by have e : b = k := e; rw [e] at l; exact List.lt_irrefl _ l, if_pos rfl]
      exact List.mem_singleton.mpr rfl
theorem nb_len (k : List Nat) (p : Tp) : (nbA k p).length ≤ 1 := by
  unfold nbA
  split
  · exact Nat.le_refl _
  · split
    · exact Nat.le_refl _
    · exact Nat.zero_le _
/-- a set of knots that has the end and, with one, all beside it, has all -/
theorem all_of (hs : HS S n) {F : List Nat → Prop} {r : List Nat} (hr : Kn S n r) (fr : F r) (cl : ∀ a b i, Tie S n a b i → F a → F b) {k : List Nat} (hk : Kn S n k) : F k := by
  apply Classical.byContradiction
  intro z
  obtain ⟨c, d, i, t, fc, fd⟩ := tie_out hs hr hk fr z
  exact fd (cl c d i t fc)
end
end Hid

namespace Hid
open PySem PySem.Spec PyProof.Rows L2 Evl
section
variable {J : It} {n : Nat} {Gd : Hp → Prop} {Y : Nat → Hp → V → Hp → Prop}
/-- a clause over a walk: Pv by the turn and the heap -/
theorem cla_it (w : Walk J n Gd Y) {g : TG} {tt : TT} {tb : TB2} {vs : List Nat} {σ : L2.St} {H1 : Hp} {QD : Hp → Prop} (Pv : Nat → Hp → Prop) (h0 : Pv 0 H1) (hG : ∀ i H, i ≤ n → Pv i H → Gd H)
    (hs : ∀ i x H H', i < n → Pv i H → Y i H x H' → g x (wipe σ vs) H' fun σ2 H2 => wipe σ2 vs = wipe σ vs ∧ tt σ2 H2 fun b H3 => if b = true then tb σ2 H3 (Pv (i + 1)) else Pv (i + 1) H3) (hd : ∀ H, Pv n H → QD H) :
    ∃ W : Nat → Nat → Hp → Prop, (∃ m, W 0 m H1) ∧ Cla J g tt tb vs σ QD W := by
  refine ⟨fun i m H => m = n - i ∧ i ≤ n ∧ Pv i H, ⟨n, by simp, Nat.zero_le _, h0⟩, fun i m H hw => ?_⟩
  obtain ⟨rfl, hi, p⟩ := hw
  rcases Nat.lt_or_ge i n with hlt | hge
  · exact .inr ⟨w.goes i H hlt (hG i H hi p), Pv (i + 1), fun H' p' => ⟨n - (i + 1), by omega, rfl, hlt, p'⟩, fun x H' y => hs i x H H' hlt p (w.yields i H x H' hlt (hG i H hi p) y)⟩
  · obtain rfl : i = n := by omega
    exact .inl ⟨w.stops H (hG i H hi p), hd H p⟩
end
def halvesL (ps : List (List Nat × List Nat)) : List Str := ps.flatMap fun p => [tx p.1, tx p.2]
theorem halvesL_len (ps : List (List Nat × List Nat)) : (halvesL ps).length = 2 * ps.length := by
  unfold halvesL
  induction ps with
  | nil => rfl
  | cons p ps ih =>
    rw [List.flatMap_cons, List.length_append, ih]
    show 2 + 2 * ps.length = 2 * (ps.length + 1)
    omega
theorem halvesL_snoc (ps : List (List Nat × List Nat)) (p : List Nat × List Nat) : halvesL (ps ++ [p]) = halvesL ps ++ [tx p.1, tx p.2] := by
  unfold halvesL
  rw [List.flatMap_append]
  rfl
theorem halvesL_mem {ps : List (List Nat × List Nat)} {x : Str} : x ∈ halvesL ps ↔ ∃ p ∈ ps, x = tx p.1 ∨ x = tx p.2 := by
  unfold halvesL
  rw [List.mem_flatMap]
  constructor
  · rintro ⟨p, hp, hx⟩
    refine ⟨p, hp, ?_⟩
    simpa using hx
  · rintro ⟨p, hp, hx⟩
    exact ⟨p, hp, by simpa using hx⟩
def RetT (xs : List V) (H : Hp) (Q : VK) : Prop := ∀ p H2, Ex H H2 → H2 p = some (.tup xs) → Q (.ref p) H2
def SmallP (ps : List (List Nat × List Nat)) : Prop := ∀ p ∈ ps, (∀ c ∈ p.1, c < 200) ∧ ∀ c ∈ p.2, c < 200
theorem shaped_strT {ys : List Str} (h : ∀ y ∈ ys, ∃ l : List Nat, y = tx l ∧ ∀ c ∈ l, c < 200) : SeqAt.shaped (.tuple (ys.map PyData.str)) = true := by
  have h1 : ∀ ys : List Str, (∀ y ∈ ys, ∃ l : List Nat, y = tx l ∧ ∀ c ∈ l, c < 200) → PyData.canLayAll0 (ys.map PyData.str) = true := by
    intro ys
    induction ys with
    | nil => intro _; rfl
    | cons y ys ih =>
      intro hh
      obtain ⟨l, rfl, hl⟩ := hh y List.mem_cons_self
      show (PyData.canLay0 (.str (tx l)) && PyData.canLayAll0 (ys.map PyData.str)) = true
      rw [ih fun q hq => hh q (List.mem_cons_of_mem _ hq)]
      simp [PyData.canLay0, strOk_sm hl]
  have h2 : ∀ ys : List Str, PyData.depthAll (ys.map PyData.str) ≤ 2 := by
    intro ys
    induction ys with
    | nil => exact Nat.zero_le _
    | cons y ys ih =>
      show max (PyData.depth (.str y)) (PyData.depthAll (ys.map PyData.str)) ≤ 2
      have : PyData.depth (.str y) ≤ 2 := by simp [PyData.depth]
      omega
  have a := h1 ys h
  have b := h2 ys
  unfold SeqAt.shaped
  simp [PyData.canLay0, PyData.depth, a]
  omega
theorem eqv_strT (D : List Str) : PyData.eqv (.tuple (D.map PyData.str)) (.tuple (D.map PyData.str)) = true := by
  have h : ∀ D : List Str, PySem.W.alikeAll (D.map PyData.str) (D.map PyData.str) = true := by
    intro D
    induction D with
    | nil => simp [PySem.W.alikeAll]
    | cons x D ih => simpa [PySem.W.alikeAll, PySem.W.alike] using ih
  exact PySem.W.eqv_refl_alike _ (by simpa [PySem.W.alike] using h D)
theorem small_mem {ps : List (List Nat × List Nat)} (h : SmallP ps) {ys : List Str} (hm : ∀ x, x ∈ ys ↔ x ∈ halvesL ps) : ∀ y ∈ ys, ∃ l : List Nat, y = tx l ∧ ∀ c ∈ l, c < 200 := fun y hy => by
  obtain ⟨p, hp, e | e⟩ := halvesL_mem.mp ((hm y).mp hy)
  · exact ⟨p.1, e, (h p hp).1⟩
  · exact ⟨p.2, e, (h p hp).2⟩
end Hid

namespace Hid
open PySem PySem.Spec PyProof.Rows L2
/-- a comprehension within another's block: the outer block's scope stands around -/
theorem blkOk_in {N : List Str} {sc0 outer scope : Scope} {own : List (Str × Nat)} {env : Env} (he : env.scope = sc0) (h : blkC N (relS outer sc0) scope own = true) : BlkOk N (relabel outer env) scope own := by
  subst he
  exact blkOk_by h
end Hid

namespace Hid
open PySem PySem.Spec PyProof.Rows L2 Evl
def topS (i : Nat) : Stmt := PySem.Challenge.pw_hidhalves_k13_trees_refused.main.body.getD i (.Pass ⟨0, 0, 0, 0⟩)
abbrev st_pair_at : Stmt := topS 21
theorem sc_pair_at : FnScope ["half", "first", "second"] ["half", "first", "second"] (defScope st_pair_at) := ⟨rfl, rfl, rfl, by decide +kernel, rfl, by decide +kernel, by decide +kernel⟩
abbrev st_four_at : Stmt := topS 23
theorem sc_four_at : FnScope ["rising", "first", "second", "least", "half", "pair"] ["rising", "first", "second"] (defScope st_four_at) := ⟨rfl, rfl, rfl, by decide +kernel, rfl, by decide +kernel, by decide +kernel⟩
abbrev st_crossing_of : Stmt := topS 24
theorem sc_crossing_of : FnScope ["halves", "rising", "places", "first", "second", "four"] ["halves"] (defScope st_crossing_of) := ⟨rfl, rfl, rfl, by decide +kernel, rfl, by decide +kernel, by decide +kernel⟩
abbrev st_shows_told_pairs : Stmt := topS 26
theorem sc_shows_told_pairs : FnScope ["halves", "start", "last", "place", "pair", "half"] ["halves", "start"] (defScope st_shows_told_pairs) := ⟨rfl, rfl, rfl, by decide +kernel, rfl, by decide +kernel, by decide +kernel⟩
abbrev st_knots_for : Stmt := topS 27
theorem sc_knots_for : FnScope ["halves", "starts", "place", "longer", "start", "sign"] ["halves"] (defScope st_knots_for) := ⟨rfl, rfl, rfl, by decide +kernel, rfl, by decide +kernel, by decide +kernel⟩
abbrev st_unlike_places : Stmt := topS 28
theorem sc_unlike_places : FnScope ["one", "other", "place"] ["one", "other"] (defScope st_unlike_places) := ⟨rfl, rfl, rfl, by decide +kernel, rfl, by decide +kernel, by decide +kernel⟩
abbrev st_parted_at : Stmt := topS 29
theorem sc_parted_at : FnScope ["halves", "place", "first", "half"] ["halves", "place"] (defScope st_parted_at) := ⟨rfl, rfl, rfl, by decide +kernel, rfl, by decide +kernel, by decide +kernel⟩
abbrev st_change_together : Stmt := topS 30
theorem sc_change_together : FnScope ["halves", "places", "place"] ["halves", "places"] (defScope st_change_together) := ⟨rfl, rfl, rfl, by decide +kernel, rfl, by decide +kernel, by decide +kernel⟩
abbrev st_ties_for : Stmt := topS 31
theorem sc_ties_for : FnScope ["halves", "knots", "ties", "at", "one", "other", "places"] ["halves", "knots"] (defScope st_ties_for) := ⟨rfl, rfl, rfl, by decide +kernel, rfl, by decide +kernel, by decide +kernel⟩
abbrev st_tree_of : Stmt := topS 32
theorem sc_tree_of : FnScope ["halves", "crossing", "knots"] ["halves"] (defScope st_tree_of) := ⟨rfl, rfl, rfl, by decide +kernel, rfl, by decide +kernel, by decide +kernel⟩
abbrev st_knots_beside : Stmt := topS 33
theorem sc_knots_beside : FnScope ["ties", "knot", "beside", "one", "other", "places"] ["ties", "knot"] (defScope st_knots_beside) := ⟨rfl, rfl, rfl, by decide +kernel, rfl, by decide +kernel, by decide +kernel⟩
abbrev st_steps_towards : Stmt := topS 34
theorem sc_steps_towards : FnScope ["ties", "end", "steps", "reached", "knot", "beside"] ["ties", "end"] (defScope st_steps_towards) := ⟨rfl, rfl, rfl, by decide +kernel, rfl, by decide +kernel, by decide +kernel⟩
abbrev st_is_knot : Stmt := topS 35
theorem sc_is_knot : FnScope ["tree", "thing"] ["tree", "thing"] (defScope st_is_knot) := ⟨rfl, rfl, rfl, by decide +kernel, rfl, by decide +kernel, by decide +kernel⟩
abbrev st_way_on : Stmt := topS 36
theorem sc_way_on : FnScope ["tree", "one", "other", "steps", "way", "knot"] ["tree", "one", "other"] (defScope st_way_on) := ⟨rfl, rfl, rfl, by decide +kernel, rfl, by decide +kernel, by decide +kernel⟩
abbrev st__law_cell : Stmt := topS 38
theorem sc__law_cell : FnScope ["_law_script", "_law_k", "_law_state", "_law_cell_here"] ["_law_script", "_law_k"] (defScope st__law_cell) := ⟨rfl, rfl, rfl, by decide +kernel, rfl, by decide +kernel, by decide +kernel⟩
abbrev st__law_numbers : Stmt := topS 39
theorem sc__law_numbers : FnScope ["_law_cell_here", "_law_many", "_law_found", "_law_state", "_law_digits", "_law_k"] ["_law_cell_here", "_law_many"] (defScope st__law_numbers) := ⟨rfl, rfl, rfl, by decide +kernel, rfl, by decide +kernel, by decide +kernel⟩
abbrev st__law_any_half : Stmt := topS 40
theorem sc__law_any_half : FnScope ["_law_x", "_law_places", "_law_place"] ["_law_x", "_law_places"] (defScope st__law_any_half) := ⟨rfl, rfl, rfl, by decide +kernel, rfl, by decide +kernel, by decide +kernel⟩
abbrev st__law_flipped : Stmt := topS 41
theorem sc__law_flipped : FnScope ["_law_half", "_law_place"] ["_law_half", "_law_place"] (defScope st__law_flipped) := ⟨rfl, rfl, rfl, by decide +kernel, rfl, by decide +kernel, by decide +kernel⟩
abbrev st__law_tree_halves : Stmt := topS 42
theorem sc__law_tree_halves : FnScope ["_law_xs", "_law_places", "_law_knots", "_law_place", "_law_x", "_law_half"] ["_law_xs", "_law_places"] (defScope st__law_tree_halves) := ⟨rfl, rfl, rfl, by decide +kernel, rfl, by decide +kernel, by decide +kernel⟩
abbrev st__law_halves : Stmt := topS 43
theorem sc__law_halves : FnScope ["_law_script", "_law_at", "_law_head", "_law_xs", "_law_ys", "_law_places", "_law_many", "_law_knots", "_law_y"] ["_law_script", "_law_at"] (defScope st__law_halves) := ⟨rfl, rfl, rfl, by decide +kernel, rfl, by decide +kernel, by decide +kernel⟩
abbrev st__law_crossing : Stmt := topS 44
theorem sc__law_crossing : FnScope ["_law_halves_here", "_law_rising", "_law_one", "_law_other_here", "_law_four", "_law_pair", "_law_half"] ["_law_halves_here"] (defScope st__law_crossing) := ⟨rfl, rfl, rfl, by decide +kernel, rfl, by decide +kernel, by decide +kernel⟩
abbrev st__law_other : Stmt := topS 45
theorem sc__law_other : FnScope ["_law_e"] ["_law_e"] (defScope st__law_other) := ⟨rfl, rfl, rfl, by decide +kernel, rfl, by decide +kernel, by decide +kernel⟩
abbrev st__law_told : Stmt := topS 46
theorem sc__law_told : FnScope ["_law_halves_here", "_law_e"] ["_law_halves_here"] (defScope st__law_told) := ⟨rfl, rfl, rfl, by decide +kernel, rfl, by decide +kernel, by decide +kernel⟩
abbrev st__law_no_way : Stmt := topS 47
theorem sc__law_no_way : FnScope ["_law_tree", "_law_one", "_law_other_here", "_law_e"] ["_law_tree", "_law_one", "_law_other_here"] (defScope st__law_no_way) := ⟨rfl, rfl, rfl, by decide +kernel, rfl, by decide +kernel, by decide +kernel⟩
abbrev st__law_ways_refused : Stmt := topS 48
theorem sc__law_ways_refused : FnScope ["_law_tree", "_law_x", "_law_knot", "_law_thing"] ["_law_tree", "_law_x"] (defScope st__law_ways_refused) := ⟨rfl, rfl, rfl, by decide +kernel, rfl, by decide +kernel, by decide +kernel⟩
abbrev st_law : Stmt := topS 49
theorem sc_law : FnScope ["_law_script", "_law_at", "_law_halves_here", "_law_x", "_law_some", "_law_due", "_law_word", "_law_told_here"] ["_law_script"] (defScope st_law) := ⟨rfl, rfl, rfl, by decide +kernel, rfl, by decide +kernel, by decide +kernel⟩

/-! the dictionary of the least half-rows -/
def b2n (b : Bool) : Nat := if b then 1 else 0
def cnt (rs : List Str) (i j : Nat) : Nat := b2n (fstAt rs i j "nn").isSome + b2n (fstAt rs i j "ny").isSome + b2n (fstAt rs i j "yn").isSome + b2n (fstAt rs i j "yy").isSome
structure DOk (rs : List Str) (i j : Nat) (kvs : List (Key × V)) : Prop where
  val : ∀ p : Str, valV kvs (Sum.inr p) = (fstAt rs i j p).map V.str
  len : kvs.length = cnt rs i j
theorem dok_nil (i j : Nat) : DOk [] i j [] := ⟨fun p => rfl, rfl⟩
theorem b2n_le (b : Bool) : b2n b ≤ 1 := by cases b <;> decide
theorem DOk.len_le {rs : List Str} {i j : Nat} {kvs : List (Key × V)} (h : DOk rs i j kvs) : kvs.length ≤ 4 := by
  rw [h.len]
  unfold cnt
  have := b2n_le (fstAt rs i j "nn").isSome
  have := b2n_le (fstAt rs i j "ny").isSome
  have := b2n_le (fstAt rs i j "yn").isSome
  have := b2n_le (fstAt rs i j "yy").isSome
  omega
theorem fst_snoc (rs : List Str) (h : Str) (i j : Nat) (p : Str) : fstAt (rs ++ [h]) i j p = (fstAt rs i j p).or (if prAt h i j = p then some h else none) := by
  unfold fstAt
  rw [List.find?_append]
  congr 1
  rw [List.find?_cons]
  by_cases q : prAt h i j = p
  · rw [decide_eq_true q, if_pos q]
  · rw [decide_eq_false q, if_neg q]; rfl
theorem DOk.old {rs : List Str} {h : Str} {i j : Nat} {kvs : List (Key × V)} {v : V} (o : DOk rs i j kvs) (hv : valV kvs (Sum.inr (prAt h i j)) = some v) : DOk (rs ++ [h]) i j kvs := by
  have hs : (fstAt rs i j (prAt h i j)).isSome = true := by
    rw [o.val] at hv
    cases hf : fstAt rs i j (prAt h i j) with
    | none => rw [hf] at hv; cases hv
    | some x => rfl
  have same : ∀ p, fstAt (rs ++ [h]) i j p = fstAt rs i j p := fun p => by
    rw [fst_snoc]
    by_cases q : prAt h i j = p
    · subst q
      obtain ⟨x, hx⟩ := Option.isSome_iff_exists.mp hs
      rw [hx]; rfl
    · rw [if_neg q, Option.or_none]
  refine ⟨fun p => by rw [o.val, same], ?_⟩
  rw [o.len]
  unfold cnt
  rw [same, same, same, same]
theorem DOk.new {rs : List Str} {h : Str} {i j : Nat} {kvs : List (Key × V)} (o : DOk rs i j kvs) (hk : prAt h i j = "nn" ∨ prAt h i j = "ny" ∨ prAt h i j = "yn" ∨ prAt h i j = "yy") (hv : valV kvs (Sum.inr (prAt h i j)) = none) : DOk (rs ++ [h]) i j (putK kvs (Sum.inr (prAt h i j)) (.str h)) := by
  have hn : fstAt rs i j (prAt h i j) = none := by
    rw [o.val] at hv
    exact Option.map_eq_none_iff.mp hv
  have at1 : fstAt (rs ++ [h]) i j (prAt h i j) = some h := by rw [fst_snoc, hn, if_pos rfl]; rfl
  have at2 : ∀ p, p ≠ prAt h i j → fstAt (rs ++ [h]) i j p = fstAt rs i j p := fun p q => by rw [fst_snoc, if_neg (fun z => q z.symm), Option.or_none]
  refine ⟨fun p => ?_, ?_⟩
  · rw [valV_put]
    by_cases q : p = prAt h i j
    · subst q
      rw [if_pos rfl, at1]; rfl
    · rw [if_neg (fun z => q (Sum.inr.inj z)), at2 p q, o.val]
  · rw [putK_new _ hv, List.length_append, o.len]
    unfold cnt
    have d1 : ("nn" : Str) ≠ "ny" := by decide
    have d2 : ("nn" : Str) ≠ "yn" := by decide
    have d3 : ("nn" : Str) ≠ "yy" := by decide
    have d4 : ("ny" : Str) ≠ "yn" := by decide
    have d5 : ("ny" : Str) ≠ "yy" := by decide
    have d6 : ("yn" : Str) ≠ "yy" := by decide
    rcases hk with e | e | e | e <;> rw [e] at hn at1 at2
    · rw [at1, hn, at2 _ d1.symm, at2 _ d2.symm, at2 _ d3.symm]
      show _ + 1 = 1 + _ + _ + _
      simp only [b2n, Option.isSome_none, Bool.false_eq_true, if_false]
      omega
    · rw [at1, hn, at2 _ d1, at2 _ d4.symm, at2 _ d5.symm]
      simp only [b2n, Option.isSome_none, Option.isSome_some, Bool.false_eq_true, if_false, if_true, List.length_cons, List.length_nil]
      try omega
    · rw [at1, hn, at2 _ d2, at2 _ d4, at2 _ d6.symm]
      simp only [b2n, Option.isSome_none, Option.isSome_some, Bool.false_eq_true, if_false, if_true, List.length_cons, List.length_nil]
      try omega
    · rw [at1, hn, at2 _ d3, at2 _ d5, at2 _ d6]
      simp only [b2n, Option.isSome_none, Option.isSome_some, Bool.false_eq_true, if_false, if_true, List.length_cons, List.length_nil]
      try omega
theorem four_cnt {rs : List Str} {i j : Nat} : (four rs i j = none ∧ cnt rs i j < 4) ∨ ∃ a b c d, four rs i j = some [a, b, c, d] ∧ cnt rs i j = 4 ∧ fstAt rs i j "nn" = some a ∧ fstAt rs i j "ny" = some b ∧ fstAt rs i j "yn" = some c ∧ fstAt rs i j "yy" = some d := by
  unfold four cnt
  cases h1 : fstAt rs i j "nn" <;> cases h2 : fstAt rs i j "ny" <;> cases h3 : fstAt rs i j "yn" <;> cases h4 : fstAt rs i j "yy" <;> first | exact .inr ⟨_, _, _, _, rfl, rfl, rfl, rfl, rfl, rfl⟩ | exact .inl ⟨rfl, by simp [b2n]⟩
theorem DOk.few {rs : List Str} {i j : Nat} {kvs : List (Key × V)} (o : DOk rs i j kvs) (h : kvs.length < 4) : four rs i j = none := by
  rcases four_cnt (rs := rs) (i := i) (j := j) with ⟨a, _⟩ | ⟨_, _, _, _, _, c, _⟩
  · exact a
  · rw [o.len] at h; omega
theorem DOk.all {rs : List Str} {i j : Nat} {kvs : List (Key × V)} (o : DOk rs i j kvs) (h : ¬ kvs.length < 4) : ∃ F, four rs i j = some F ∧ ∀ n p, prs[n]? = some p → valV kvs (Sum.inr p) = some (.str (F.getD n Str.empty)) := by
  rcases four_cnt (rs := rs) (i := i) (j := j) with ⟨_, b⟩ | ⟨a, b, c, d, e, _, h1, h2, h3, h4⟩
  · rw [o.len] at h; omega
  · refine ⟨_, e, fun n p hp => ?_⟩
    match n, hp with
    | 0, hp => cases hp; rw [o.val, h1]; rfl
    | 1, hp => cases hp; rw [o.val, h2]; rfl
    | 2, hp => cases hp; rw [o.val, h3]; rfl
    | 3, hp => cases hp; rw [o.val, h4]; rfl
    | n + 4, hp => exact absurd hp (by unfold prs; simp)

def accN (rs : List Str) (i j c : Nat) : List Str := (prs.take c).flatMap fun p => (fstAt rs i j p).toList
theorem accN_step (rs : List Str) (i j c : Nat) {p : Str} (h : prs[c]? = some p) : accN rs i j (c + 1) = accN rs i j c ++ (fstAt rs i j p).toList := by
  unfold accN
  rw [List.take_add_one, h]
  simp
theorem opt_len (o : Option Str) : o.toList.length ≤ 1 := by cases o <;> simp
theorem accN_len (rs : List Str) (i j c : Nat) : (accN rs i j c).length ≤ 4 := by
  unfold accN
  have g : ∀ l : List Str, (l.flatMap fun p => (fstAt rs i j p).toList).length ≤ l.length := by
    intro l
    induction l with
    | nil => exact Nat.le_refl _
    | cons p l ih =>
      rw [List.flatMap_cons, List.length_append, List.length_cons]
      have := opt_len (fstAt rs i j p)
      omega
  have h1 := g (prs.take c)
  rw [List.length_take] at h1
  have : prs.length = 4 := rfl
  omega
theorem accN_four (rs : List Str) (i j : Nat) : (four rs i j = none ∧ (accN rs i j 4).length < 4) ∨ ∃ F, four rs i j = some F ∧ accN rs i j 4 = F := by
  have e : accN rs i j 4 = (fstAt rs i j "nn").toList ++ ((fstAt rs i j "ny").toList ++ ((fstAt rs i j "yn").toList ++ ((fstAt rs i j "yy").toList ++ []))) := rfl
  rw [e]
  unfold four
  cases h1 : fstAt rs i j "nn" <;> cases h2 : fstAt rs i j "ny" <;> cases h3 : fstAt rs i j "yn" <;> cases h4 : fstAt rs i j "yy" <;> first | exact .inr ⟨_, rfl, rfl⟩ | exact .inl ⟨rfl, by simp⟩
theorem map_range_getD {α : Type} (l : List α) (d : α) : (List.range l.length).map (fun n => l.getD n d) = l := by
  apply List.ext_getElem?
  intro n
  by_cases h : n < l.length
  · rw [List.getElem?_map, List.getElem?_range h, List.getElem?_eq_getElem h]
    simp [List.getD_eq_getElem?_getD, h]
  · rw [List.getElem?_eq_none (by rw [List.length_map, List.length_range]; omega), List.getElem?_eq_none (by omega)]
theorem given_filter (rs : List Str) (p : Str → Bool) : given rs.length (fun c => p (rs.getD c Str.empty)) (fun c => V.str (rs.getD c Str.empty)) = (rs.filter p).map V.str := by
  unfold given
  conv => rhs; rw [← map_range_getD rs Str.empty]
  rw [List.filter_map, List.map_map]
  rfl
theorem cut_one (rs : List Str) (p : Str → Bool) : cutV ((rs.filter p).map V.str) none (some 1) = (rs.find? p).toList.map V.str := by
  have e : cutV ((rs.filter p).map V.str) none (some 1) = ((rs.filter p).map V.str).take 1 := by
    unfold cutV
    rw [show HT.sIx ((rs.filter p).map V.str).length ((rs.filter p).map V.str).length (some 1) = min 1 ((rs.filter p).map V.str).length from HT.sIx_nat _ _ 1]
    show List.take (min 1 _ - 0) (List.drop 0 _) = _
    rw [List.drop_zero, Nat.sub_zero]
    generalize (rs.filter p).map V.str = l
    cases l with
    | nil => rfl
    | cons x l => rw [List.length_cons, Nat.min_eq_left (by omega)]
  rw [e, ← List.head?_filter]
  generalize rs.filter p = l
  cases l <;> rfl

def bitc (x : Int) (k : Nat) : Nat := if x / 2 ^ k % 2 = 0 then 110 else 121
def anyH (x : Int) (n : Nat) : Str := tx ((List.range n).map (bitc x))
theorem any_half (x : Int) (n : Nat) : HalfS n (anyH x n) := by
  refine ⟨by simp [anyH, tx], fun c hc => ?_⟩
  have h : c ∈ (List.range n).map (bitc x) := by simpa [anyH, tx] using hc
  obtain ⟨k, _, rfl⟩ := List.mem_map.mp h
  unfold bitc
  split
  · exact .inl rfl
  · exact .inr rfl
def turnc (c : Nat) : Nat := if c = 110 then 121 else 110
def flipH (h : Str) (k : Nat) : Str := (cutS h none (some (k : Int)) ++ (⟨#[turnc (sgAt h k)]⟩ : Str)) ++ cutS h (some ((k : Int) + 1)) none
theorem sg_mem {m k : Nat} {h : Str} (hh : HalfS m h) (hk : k < m) : sgAt h k ∈ h.cps.toList := by
  have hk' : k < h.cps.toList.length := by rw [Array.length_toList, hh.1]; exact hk
  unfold sgAt
  rw [List.getD_eq_getElem?_getD, List.getElem?_eq_getElem hk']
  exact List.getElem_mem hk'
theorem cut_front {m k : Nat} {h : Str} (hh : HalfS m h) (hk : k < m) : (cutS h none (some (k : Int))).cps = (h.cps.toList.take k).toArray := by
  unfold cutS
  have e : h.length = m := hh.1
  rw [HT.sIx_nat]
  show (List.take (min k h.length - 0) (List.drop 0 h.cps.toList)).toArray = _
  rw [List.drop_zero, Nat.sub_zero, e, Nat.min_eq_left (by omega)]
theorem cut_back {m k : Nat} {h : Str} (hh : HalfS m h) (hk : k < m) : (cutS h (some ((k : Int) + 1)) none).cps = (h.cps.toList.drop (k + 1)).toArray := by
  unfold cutS
  have e : h.length = m := hh.1
  have e1 : HT.sIx h.length 0 (some ((k : Int) + 1)) = k + 1 := by
    rw [show (k : Int) + 1 = ((k + 1 : Nat) : Int) by omega, HT.sIx_nat, e]
    omega
  rw [e1]
  show (List.take (h.length - (k + 1)) (List.drop (k + 1) h.cps.toList)).toArray = _
  rw [List.take_of_length_le]
  rw [List.length_drop, Array.length_toList]
  exact Nat.le_refl _
theorem flip_ok {m k : Nat} {h : Str} (hh : HalfS m h) (hk : k < m) : HalfS m (flipH h k) := by
  have e : (flipH h k).cps = ((cutS h none (some (k : Int))).cps ++ #[turnc (sgAt h k)]) ++ (cutS h (some ((k : Int) + 1)) none).cps := rfl
  rw [cut_front hh hk, cut_back hh hk] at e
  refine ⟨?_, fun c hc => ?_⟩
  · rw [e]
    have := hh.1
    simp
    omega
  · rw [e] at hc
    simp only [Array.toList_append, List.mem_append, List.toList_toArray] at hc
    rcases hc with (z | z) | z
    · exact hh.2 c (List.mem_of_mem_take z)
    · have : c = turnc (sgAt h k) := by simpa using z
      rw [this]
      unfold turnc
      split
      · exact .inr rfl
      · exact .inl rfl
    · exact hh.2 c (List.mem_of_mem_drop z)

def RetU (xs : List V) (H : Hp) (Q : VK) : Prop := ∀ p H2, H p = none → Ex H H2 → H2 p = some (.tup xs) → Q (.ref p) H2
theorem cut_take {xs : List V} (n : Nat) : cutV xs none (some (n : Int)) = xs.take n := by
  unfold cutV
  rw [HT.sIx_nat]
  show List.take (min n xs.length - 0) (List.drop 0 xs) = _
  rw [List.drop_zero, Nat.sub_zero]
  by_cases h : n ≤ xs.length
  · rw [Nat.min_eq_left h]
  · rw [Nat.min_eq_right (by omega), List.take_length, List.take_of_length_le (by omega)]
theorem get_getD {l : List Str} {n : Nat} (h : n < l.length) : l[n]? = some (l.getD n Str.empty) := by
  rw [List.getD_eq_getElem?_getD, List.getElem?_eq_getElem h]
  rfl
theorem paired_len' {α γ : Type} {F : α → γ → Prop} : ∀ {l : List α} {m : List γ}, Paired F l m → l.length = m.length
  | _, _, .nil => rfl
  | _, _, .cons _ t => by rw [List.length_cons, List.length_cons, paired_len' t]
theorem map_rep (n : Nat) (hs : List Str) : ((List.replicate n hs).flatten).map V.str = (List.replicate n (hs.map V.str)).flatten := by
  rw [List.map_flatten, List.map_replicate]
theorem rep_ok {n : Nat} {hs : List Str} (h0 : hs ≠ []) (hl : hs.length ≤ 10) (hn : 4 ≤ n ∧ n ≤ 40) : (List.replicate n hs).flatten ≠ [] ∧ (List.replicate n hs).flatten.length < 1000 ∧ ∀ x, x ∈ (List.replicate n hs).flatten ↔ x ∈ hs := by
  have hm : ∀ x, x ∈ (List.replicate n hs).flatten ↔ x ∈ hs := fun x => by
    rw [List.mem_flatten]
    constructor
    · rintro ⟨l, a, b⟩
      rw [List.eq_of_mem_replicate a] at b
      exact b
    · intro b
      exact ⟨hs, List.mem_replicate.mpr ⟨by omega, rfl⟩, b⟩
  refine ⟨fun z => ?_, ?_, hm⟩
  · cases hs with
    | nil => exact h0 rfl
    | cons y r =>
      have := (hm y).mpr List.mem_cons_self
      rw [z] at this
      cases this
  · rw [List.length_flatten, List.map_replicate, List.sum_replicate_nat]
    have : n * hs.length ≤ 40 * 10 := Nat.mul_le_mul hn.2 hl
    omega
section
variable {K : PySem.W.Frag} {σ : L2.St} {H H' : Hp} {ta tb tc te tl : TE} {D : Ends} {tu tz : TS}
theorem c_callP {sp : Sp} {E : XK} {Q : VK} {W : V → Hp → Prop} (h : EvP ta σ H W) (k : ∀ v H2, Ex H H2 → W v H2 → sp [v] H2 Q E) : tCall sp [] E (tCons ta tNil) σ H Q := h H (Ex.refl _) _ fun v H2 e2 hv => k v H2 e2 hv
theorem r_opC {r : R2} {y : V} (h : ta σ H (fun x H1 => r x y H1 D.rt)) : tRet (tOp r ta (tC y)) D σ H := h
theorem q_forPs {ts : TA} {j : Nat} {R : List V → Hp → Prop} (h : EvPs ts σ H R) (hlen : ∀ vs H2, R vs H2 → vs.length ≤ 100000) (Pv : Addr → List V → Nat → L2.St → Hp → Prop) (h0 : ∀ p vs H2, Ex H H2 → R vs H2 → H2 p = none → Pv p vs 0 σ (upd H2 p (.lst vs)))
    (hl : ∀ p vs i σ' H', i ≤ vs.length → Pv p vs i σ' H' → SqL K H' p vs) (hs : ∀ p vs i x σ' H', vs[i]? = some x → Pv p vs i σ' H' → tu { D with nx := Pv p vs (i + 1), ct := Pv p vs (i + 1), bk := tz D } (σ'.set j (some x)) H')
    (hd : ∀ p vs σ' H', Pv p vs vs.length σ' H' → tz D σ' H') : tSeq (tFor (iList K (tLst ts)) (gName j) tu) tz D σ H :=
  h H (Ex.refl _) _ fun vs H2 e2 hv => ⟨sz_of (hlen vs H2 hv), fun p hp => ⟨p, rfl, ⟨vs, sq_of upd_same⟩, for_list (D := { D with nx := tz D }) (Pv p vs) (h0 p vs H2 e2 hv hp) (hl p vs) (hs p vs) (hd p vs)⟩⟩
end
section
variable {P : Program} {w : World} {K : PySem.W.Frag} {mg : Str → Option Value} {base : Heap}
def sp__law_cell (K : PySem.W.Frag) (ts : List Addr) : Sp := fun vs H Q _ => ∃ (a : Addr) (ns : List Int) (k : Int), vs = [.ref a, .int k] ∧ SqL K H a (ns.map V.int) ∧ (0 ≤ k ∧ k ≤ 1000) ∧ ∀ (c : Int) H2, Ex H H2 → Q (.int c) H2
theorem ok__law_cell {ts : List Addr} (D : Df K mg "_law_cell" st__law_cell ["_law_script", "_law_k"]) (m_len : mg "len" = none) : At P w K mg base "_law_cell" st__law_cell 1 ["_law_script", "_law_k"] (sp__law_cell K ts) := by
  obtain ⟨f, fd, F, b, g⟩ := D
  refine ⟨f, fd, F, b, g, F.ok sc__law_cell (fun vs H Q E h => ?_) (fun cdv A outer s H vs Q E hr h => ?_)⟩
  · obtain ⟨a, ns, k, rfl, _⟩ := h
    rfl
  · obtain ⟨a, ns, k, rfl, hS, hk, q⟩ := h
    refine ⟨_, (pss_cons (ps_if (pt_cmpR op_lt (pv 1) (pe_callB call_len_seq (by rfl) m_len (by decide +kernel) (pa_cons (pv 0) pa_nil)) (nomark _))
      (pss_one (ps_ret (pe_ix ix_list (pv 0) (pv 1) (fun _ _ => rfl))))
      pss_nil)
      (pss_cons (ps_set (i := 2) sc__law_cell.nd rfl (.inl rfl) (pe_op op_mod (pe_op op_mul pe_int (pe_op op_add (pe_op op_add (pe_op op_mul (pv 1) (pv 1)) (pe_op op_mul pe_int (pv 1))) pe_int)) pe_int))
      (pss_cons (ps_for PassesOwn.never rfl (pi_list (pe_slice sl_list (pv 0) po_none (po_some pe_int))) (pg_name (i := 3) sc__law_cell.nd rfl (.inl rfl))
      (pss_one (ps_set (i := 2) sc__law_cell.nd rfl (.inl rfl) (pe_op op_mod (pe_op op_add (pe_op op_mul (pv 2) pe_int) (pv 3)) pe_int))))
      (pss_one (ps_ret (pv 2)))))), ?_⟩
    refine q_when (et_test (ev_op (ev_var rfl) (ev_len (ev_var rfl) hS) rv_I0)) (fun hb H1 e1 => ?_) (fun hb H1 e1 => ?_)
    · have hb' : k < ((ns.map V.int).length : Int) := of_decide_eq_true hb
      have hj : k.toNat < ns.length := by rw [List.length_map] at hb'; omega
      have hat : atI (ns.map V.int) k = some (.int ns[k.toNat]) := by
        have := atI_nat (xs := ns.map V.int) (j := k.toNat) (v := .int ns[k.toNat]) (by rw [List.getElem?_map, List.getElem?_eq_getElem hj]; rfl)
        rwa [Int.toNat_of_nonneg hk.1] at this
      exact s_ret (ev_op (ev_var rfl) (ev_var rfl) (rv_ixL (ex_l e1 hS) hat)) fun H2 e2 => q _ _ (e1.trans e2)
    · refine q_asg (ev_op (ev_op ev_c (ev_op (ev_op (ev_op (ev_var rfl) (ev_var rfl) (rv_I (.inl ⟨by omega, by omega⟩))) (ev_op ev_c (ev_var rfl) (rv_I (.inl ⟨by omega, by omega⟩))) rv_I0) ev_c rv_I0) (rv_I (.inl ⟨by omega, by omega⟩))) ev_c (rv_I (by show (0 : Int) < 2147483647; decide))) fun H2 e2 => ?_
      refine q_forNLn (el_sl (ev_var rfl) eo_none (eo_some ev_c) (ex_l (e1.trans e2) hS)) (fun p i σ' H' => ∃ (c : Int) (y3 : Option V), σ' = [some (.ref a), some (.int k), some (.int c), y3] ∧ (0 ≤ c ∧ c < 2147483647) ∧ Ex H H' ∧ H' p = some (.lst (cutV (ns.map V.int) none (some 3)))) (fun p H3 hp e3 h3 => ⟨_, _, rfl, ⟨by omega, by omega⟩, (e1.trans e2).trans e3, h3⟩) (fun p i σ' H' _ hP => ?_) (fun p i x σ' H' hx hP => ?_) (fun p σ' H' hP => ?_)
      · obtain ⟨c, y3, _, _, _, h3⟩ := hP
        exact sq_of h3
      · obtain ⟨c, y3, rfl, hc, e3, h3⟩ := hP
        have hm : x ∈ ns.map V.int := List.mem_of_mem_drop (List.mem_of_mem_take (List.mem_of_getElem? hx))
        obtain ⟨z, _, rfl⟩ := List.mem_map.mp hm
        refine s_asg (ev_op (ev_op (ev_op (ev_var rfl) ev_c (rv_I (.inl ⟨by omega, by omega⟩))) (ev_var rfl) rv_I0) ev_c (rv_I (by show (0 : Int) < 2147483647; decide))) fun H4 e4 => ?_
        exact ⟨_, _, rfl, ⟨by omega, by omega⟩, e3.trans e4, e4 _ _ h3⟩
      · obtain ⟨c, y3, rfl, hc, e3, h3⟩ := hP
        exact s_ret (ev_var rfl) fun H4 e4 => q _ _ (e3.trans e4)
def sp__law_numbers (K : PySem.W.Frag) (ts : List Addr) : Sp := fun vs H Q _ => ∃ (c n : Int), vs = [.int c, .int n] ∧ (0 ≤ n ∧ n ≤ 1000) ∧ ∀ xs : List Int, (xs.length : Int) = n → (∀ x ∈ xs, 0 ≤ x) → RetL (xs.map V.int) H Q
theorem ok__law_numbers {ts : List Addr} (D : Df K mg "_law_numbers" st__law_numbers ["_law_cell_here", "_law_many"]) (m_abs : mg "abs" = none) (m_range : mg "range" = none) (m_int : mg "int" = none) : At P w K mg base "_law_numbers" st__law_numbers 1 ["_law_cell_here", "_law_many"] (sp__law_numbers K ts) := by
  obtain ⟨f, fd, F, b, g⟩ := D
  refine ⟨f, fd, F, b, g, F.ok sc__law_numbers (fun vs H Q E h => ?_) (fun cdv A outer s H vs Q E hr h => ?_)⟩
  · obtain ⟨c, n, rfl, _⟩ := h
    rfl
  · obtain ⟨c, n, rfl, hn, q⟩ := h
    refine ⟨_, (pss_cons (ps_set (i := 2) sc__law_numbers.nd rfl (.inl rfl) (pe_lst pa_nil))
      (pss_cons (ps_set (i := 3) sc__law_numbers.nd rfl (.inl rfl) (pe_op op_mod (pe_op op_mul (pe_op op_add (pe_op op_mod (pv 0) pe_int) pe_int) pe_int) pe_int))
      (pss_cons (ps_set (i := 4) sc__law_numbers.nd rfl (.inl rfl) pe_int)
      (pss_cut (ps_if (PW.pt (pw_or (pt_cmpR op_lt (pv 0) pe_int (nomark _)) (pw_or1 (pt_cmpR op_ge (pv 0) (pe_op op_pow pe_int pe_int) (nomark _)))))
      (pss_one (ps_set (i := 4) sc__law_numbers.nd rfl (.inl rfl) (pe_callB call_abs (by rfl) m_abs (by decide +kernel) (pa_cons (pv 0) pa_nil))))
      pss_nil)
      (pss_cons (ps_for PassesOwn.never rfl (pi_range1 (by rfl) m_range (pa_cons (pv 1) pa_nil)) (pg_name (i := 5) sc__law_numbers.nd rfl (.inl rfl))
      (pss_cons (ps_set (i := 3) sc__law_numbers.nd rfl (.inl rfl) (pe_op op_mod (pe_op op_add (pe_op op_add (pe_op op_mul (pv 3) (pe_op op_add (pe_op op_mod (pv 3) pe_int) pe_int)) (pe_op op_mul pe_int (pv 5))) pe_int) pe_int))
      (pss_cons (ps_expr (pe_bm PySem.F.plainAttrs_list PySem.F.slot_list_append PySem.F.type_list_append mt_append (pv 2) (pa_cons (pe_ix ix_list (pe_lst (pa_cons (pv 3) (pa_cons (pe_op op_mod (pv 4) pe_int) pa_nil))) (pe_callTy call_int1 (by rfl) m_int (by decide +kernel) (pa_cons (pe_cmpR op_gt (pv 4) pe_int (nomark _)) pa_nil)) (fun _ _ => rfl)) pa_nil)))
      (pss_one (ps_set (i := 4) sc__law_numbers.nd rfl (.inl rfl) (pe_op op_fdiv (pv 4) pe_int))))))
      (pss_one (ps_ret (pv 2)))))))), ?_⟩
    refine q_asgL (el_lst ea_nil (by decide)) fun l H1 hl e1 h1 => ?_
    refine q_asg (ev_op (ev_op (ev_op (ev_op (ev_var rfl) ev_c (rv_I (by show (0 : Int) < 1999999973; decide))) ev_c rv_I0) ev_c (rv_I (.inl ⟨by omega, by omega⟩))) ev_c (rv_I (by show (0 : Int) < 1999999973; decide))) fun H2 e2 => ?_
    refine q_asg ev_c fun H3 e3 => ?_
    have e13 : Ex H H3 := (e1.trans e2).trans e3
    have h3 : H3 l = some (.lst []) := e3 _ _ (e2 _ _ h1)
    generalize hst : ((c % 1999999973 + 31) * 765432101) % 1999999973 = st
    have hst1 : 0 ≤ st ∧ st < 1999999973 := by omega
    refine q_cut (M := fun σ' H' => ∃ d : Int, σ' = [some (.int c), some (.int n), some (.ref l), some (.int st), some (.int d), none] ∧ 0 ≤ d ∧ Ex H H' ∧ H' l = some (.lst [])) ?_ ?_
    · refine s_when (et_or (et_test (ev_op (ev_var rfl) ev_c rv_I0)) fun _ => et_test (ev_op (ev_var rfl) (ev_op ev_c ev_c (rv_I ⟨by decide, by decide, by decide⟩)) rv_I0)) (fun hb H4 e4 => ?_) (fun hb H4 e4 => ?_)
      · refine s_asg (ev_cb (ea_cons (ev_var rfl) ea_nil) (z := .int (if c < 0 then -c else c)) (fun Hx ex Qx qx => ⟨c, rfl, qx Hx (Ex.refl _)⟩)) fun H5 e5 => ?_
        exact ⟨_, rfl, by split <;> omega, (e13.trans e4).trans e5, e5 _ _ (e4 _ _ h3)⟩
      · exact ⟨0, rfl, Int.le_refl _, e13.trans e4, e4 _ _ h3⟩
    · rintro σ' H' ⟨d, rfl, hd, e4, h4⟩
      refine q_forR1 (ea_cons (ev_var rfl) ea_nil) ⟨hn.1, by omega⟩ (fun i σ' H' => ∃ (xs : List Int) (st d : Int) (y5 : Option V), σ' = [some (.int c), some (.int n), some (.ref l), some (.int st), some (.int d), y5] ∧ (0 ≤ st ∧ st < 1999999973) ∧ 0 ≤ d ∧ xs.length = i ∧ (∀ x ∈ xs, 0 ≤ x) ∧ Ex H H' ∧ H' l = some (.lst (xs.map V.int))) (fun H5 e5 => ⟨[], st, d, _, rfl, hst1, hd, rfl, (fun _ m => nomatch m), e4.trans e5, e5 _ _ h4⟩) (fun i σ' H' hi hP => ?_) (fun σ' H' hP => ?_)
      · obtain ⟨xs, st, d, y5, rfl, hs, hd, hx, hpos, e6, h6⟩ := hP
        refine q_asg (ev_op (ev_op (ev_op (ev_op (ev_var rfl) (ev_op (ev_op (ev_var rfl) ev_c (rv_I (by show (0 : Int) < 65521; decide))) ev_c rv_I0) (rv_I (.inl ⟨by omega, by omega⟩))) (ev_op ev_c (ev_var rfl) (rv_I (.inl ⟨by omega, by omega⟩))) rv_I0) ev_c rv_I0) ev_c (rv_I (by show (0 : Int) < 1999999973; decide))) fun H7 e7 => ?_
        generalize hst2 : (st * (st % 65521 + 40487) + 7 * (i : Int) + 5) % 1999999973 = st2
        have hb2 : 0 ≤ st2 ∧ st2 < 1999999973 := by rw [← hst2]; exact ⟨Int.emod_nonneg _ (by decide), Int.emod_lt_of_pos _ (by decide)⟩
        have h7 : H7 l = some (.lst (xs.map V.int)) := e7 _ _ h6
        refine q_app (v := .int (if d > 0 then d % 1000000 else st2)) h7 (ev_var rfl) ?_ (by rw [List.length_map]; omega) fun H8 e8 => ?_
        · refine ev_opL1 (el_lst (ea_cons (ev_var rfl) (ea_cons (ev_op (ev_var rfl) ev_c (rv_I (by show (0 : Int) < 1000000; decide))) ea_nil)) (by show 2 ≤ 100000; decide)) (y := .int (if decide (d > 0) = true then 1 else 0)) (fun Hx ex => ev_cb (ea_cons (ev_op (ev_var rfl) ev_c rv_I0) ea_nil) fun Hy ey Qy qy => .inr ⟨_, rfl, qy Hy (Ex.refl _)⟩) fun p Hx hp ex => rv_ixL (sq_of hp) ?_
          by_cases hd0 : d > 0
          · rw [decide_eq_true hd0, if_pos hd0] <;> rfl
          · rw [decide_eq_false hd0, if_neg hd0] <;> rfl
        · refine s_asg (ev_op (ev_var rfl) ev_c (rv_I ⟨by decide, by decide⟩)) fun H9 e9 => ?_
          have ne : H l = none := hl
          refine ⟨xs ++ [if d > 0 then d % 1000000 else st2], st2, d / 1000000, _, rfl, hb2, by omega, by rw [List.length_append, hx]; rfl, fun x hx2 => ?_, ?_, ?_⟩
          · rcases List.mem_append.mp hx2 with h | h
            · exact hpos x h
            · rw [List.mem_singleton.mp h]
              split <;> omega
          · exact ((e6.trans e7).trans e8 |>.mut ne).trans e9
          · refine e9 _ _ ?_
            rw [upd_same, List.map_append] <;> rfl
      · obtain ⟨xs, st, d, y5, rfl, hs, hd, hx, hpos, e6, h6⟩ := hP
        exact s_ret (ev_var rfl) fun H7 e7 => q xs (by omega) hpos l H7 hl (e6.trans e7) (e7 _ _ h6)
def sp_pair_at (K : PySem.W.Frag) (ts : List Addr) : Sp := fun vs H Q _ => ∃ (h : Str) (i j m : Nat), vs = [.str h, .int i, .int j] ∧ (HalfS m h ∧ i < m ∧ j < m ∧ m ≤ 1000) ∧ RetV (.str (prAt h i j)) H Q
theorem ok_pair_at {ts : List Addr} (D : Df K mg "pair_at" st_pair_at ["half", "first", "second"]) : At P w K mg base "pair_at" st_pair_at 1 ["half", "first", "second"] (sp_pair_at K ts) := by
  obtain ⟨f, fd, F, b, g⟩ := D
  refine ⟨f, fd, F, b, g, F.ok sc_pair_at (fun vs H Q E h => ?_) (fun cdv A outer s H vs Q E hr h => ?_)⟩
  · obtain ⟨h, i, j, m, rfl, _⟩ := h
    rfl
  · obtain ⟨h, i, j, m, rfl, ⟨hh, hi, hj, hm⟩, q⟩ := h
    refine ⟨_, (pss_one (ps_ret (pe_op op_add_str (pe_ix ix_str (pv 0) (pv 1) (fun _ _ => rfl)) (pe_ix ix_str (pv 0) (pv 2) (fun _ _ => rfl))))), ?_⟩
    have hl : h.length ≤ 100000 := by show h.cps.size ≤ 100000; rw [hh.1]; omega
    exact s_ret (ev_is (ev_op (ev_op (ev_var rfl) (ev_var rfl) (rv_ixS hl (at_sg hh hi))) (ev_op (ev_var rfl) (ev_var rfl) (rv_ixS hl (at_sg hh hj))) (rv_catS (by show 1 ≤ 1000; decide) (by show 1 ≤ 1000; decide))) rfl) fun H1 e1 => q H1 e1
def sp_four_at (K : PySem.W.Frag) (ts : List Addr) : Sp := fun vs H Q _ => ∃ (a : Addr) (rs : List Str) (i j m : Nat), vs = [.ref a, .int i, .int j] ∧ SqL K H a (rs.map V.str) ∧ ((∀ h ∈ rs, HalfS m h) ∧ rs.length ≤ 1000 ∧ i < m ∧ j < m ∧ m ≤ 1000) ∧ ∀ v H2, Ex H H2 → ResF H2 v (four rs i j) → Q v H2
theorem ok_four_at {ts : List Addr} {a_PAIRS : Addr} {odP : Option Addr} {slP : Array (Option Value)} {nP : Nat} {tP1 tP2 tP3 tP4 : Tok} (D : Df K mg "four_at" st_four_at ["rising", "first", "second"]) (m_len : mg "len" = none) (m_tuple : mg "tuple" = none) (c_PAIRS : mg "PAIRS" = some (.ref a_PAIRS)) (p_PAIRS : K.lookup a_PAIRS = some ⟨.type "tuple", odP, .seq #[.str "nn" tP1, .str "ny" tP2, .str "yn" tP3, .str "yy" tP4] nP, slP⟩) (A_pair_at : At P w K mg base "pair_at" st_pair_at 1 ["half", "first", "second"] (sp_pair_at K ts)) : At P w K mg base "four_at" st_four_at 2 ["rising", "first", "second"] (sp_four_at K ts) := by
  obtain ⟨f, fd, F, b, g⟩ := D
  obtain ⟨f_pair_at, fd_pair_at, F_pair_at, b_pair_at, g_pair_at, G_pair_at⟩ := A_pair_at
  refine ⟨f, fd, F, b, g, F.ok sc_four_at (fun vs H Q E h => ?_) (fun cdv A outer s H vs Q E hr h => ?_)⟩
  · obtain ⟨a, rs, i, j, m, rfl, _⟩ := h
    rfl
  · obtain ⟨a, rs, i, j, m, rfl, hS, ⟨hr2, hlen, hi, hj, hm⟩, q⟩ := h
    refine ⟨_, (pss_cons (ps_set (i := 3) sc_four_at.nd rfl (.inr rfl) pe_dnewK)
      (pss_cons (ps_for PassesOwn.never rfl (pi_list (pv 0)) (pg_name (i := 4) sc_four_at.nd rfl (.inl rfl))
      (pss_one (ps_expr (pe_dsetd (pv 3) (pe_call G_pair_at (hr.mono (by decide)) (by rfl) g_pair_at F_pair_at.kp b_pair_at .nil pass0 (pa_cons (pv 4) (pa_cons (pv 1) (pa_cons (pv 2) pa_nil)))) (pv 4) ⟨rfl, rfl, rfl, rfl⟩))))
      (pss_cons (ps_if (pt_cmpR op_lt (pe_callB call_lenD (by rfl) m_len (by decide +kernel) (pa_cons (pv 3) pa_nil)) (pe_callB call_len_seq (by rfl) m_len (by decide +kernel) (pa_cons (pe_glob (v := .ref a_PAIRS) (by rfl) c_PAIRS rfl) pa_nil)) (nomark _))
      (pss_one (ps_ret pe_non))
      pss_nil)
      (pss_one (ps_ret (pe_callTy call_tuple_of (by rfl) m_tuple (by decide +kernel) (pa_cons (pe_lc (own := [("pair", 5)]) (g := gName 5) (by rfl) sc_four_at.nd (pi_tup (pe_glob (v := .ref a_PAIRS) (by rfl) c_PAIRS rfl)) (blkOk_by (N := ["rising", "first", "second", "least", "half", "pair"]) (sc := defScope st_four_at) (by decide +kernel)) (fun _ _ _ _ _ => (pg_name (i := 5) sc_four_at.nd rfl (.inl rfl))) (fun _ _ _ _ _ => pts_nil) (fun _ _ _ _ _ => (pe_dget (Hid.u1 hr) (pv 3) (pv 5) (fun _ _ => rfl)))) pa_nil))))))), ?_⟩
    have hP : ∀ G, SqT K G a_PAIRS (prs.map V.str) := fun G => .inr ⟨_, _, _, p_PAIRS, rfl, rfl, (by show (4 : Nat) ≤ sizeLine; decide), .cons ⟨_, rfl⟩ (.cons ⟨_, rfl⟩ (.cons ⟨_, rfl⟩ (.cons ⟨_, rfl⟩ .nil)))⟩
    refine fun d hd => ?_
    refine q_forLn (ev_var rfl) (ex_l (Ex.new hd) hS) (fun n σ' H' => ∃ (kvs : List (Key × V)) (y4 : Option V), σ' = [some (.ref a), some (.int i), some (.int j), some (.ref d), y4, none] ∧ Ex H H' ∧ H' d = some (.dK kvs) ∧ DOk (rs.take n) i j kvs) (fun H1 e1 => ⟨[], _, rfl, (Ex.new hd).trans e1, e1 _ _ upd_same, dok_nil i j⟩) (fun n σ' H' _ hP => ?_) (fun n x σ' H' hx hP => ?_) (fun σ' H' hP => ?_)
    · obtain ⟨kvs, y4, _, e1, _, _⟩ := hP
      exact ex_l e1 hS
    · obtain ⟨kvs, y4, rfl, e1, h1, ok⟩ := hP
      rw [List.getElem?_map] at hx
      obtain ⟨h, hh, rfl⟩ := Option.map_eq_some_iff.mp hx
      have hlt := (List.getElem?_eq_some_iff.mp hh).1
      have hmem : h ∈ rs := List.mem_of_getElem? hh
      refine ⟨_, rfl, d, rfl, .inl ⟨kvs, .inl h1⟩, c_call (ea_cons (ev_var rfl) (ea_cons (ev_var rfl) (ea_cons (ev_var rfl) ea_nil))) fun H2 e2 => ⟨h, i, j, m, rfl, ⟨hr2 h hmem, hi, hj, hm⟩, fun H3 e3 => ⟨_, rfl, kvs, Sum.inr (prAt h i j), e3 _ _ (e2 _ _ h1), rfl, sz_lt (by have := ok.len_le; omega), fun v hv => ?_, fun hv => ?_⟩⟩⟩
      · refine ⟨kvs, _, rfl, (e1.trans e2).trans e3, e3 _ _ (e2 _ _ h1), ?_⟩
        rw [List.take_add_one, hh]
        exact ok.old hv
      · refine ⟨_, _, rfl, ((e1.trans e2).trans e3).mut hd, upd_same, ?_⟩
        rw [List.take_add_one, hh]
        exact ok.new (prAt_in (hr2 h hmem) hi hj) hv
    · obtain ⟨kvs, y4, rfl, e1, h1, ok⟩ := hP
      rw [List.take_of_length_le (by rw [List.length_map]; exact Nat.le_refl _)] at ok
      refine q_when (et_test (ev_op (ev_cb (ea_cons (ev_var rfl) ea_nil) (z := .int (kvs.length : Int)) fun H2 e2 Q2 q2 => ⟨d, kvs, rfl, e2 _ _ h1, q2 H2 (Ex.refl _)⟩) (ev_lenT ev_c (hP _)) rv_I0)) (fun hb H2 e2 => ?_) (fun hb H2 e2 => ?_)
      · refine s_ret ev_c fun H3 e3 => q _ H3 ((e1.trans e2).trans e3) ?_
        have hlt : kvs.length < 4 := by have := of_decide_eq_true hb; simp [prs] at this; omega
        rw [ok.few hlt]
        rfl
      · have hge : ¬ kvs.length < 4 := by have := of_decide_eq_false hb; simp [prs] at this; omega
        obtain ⟨F, hF, hv⟩ := ok.all hge
        refine s_retU (eu_tupOf (el_lcT (fun _ => true) (fun n => .str (F.getD n Str.empty)) ev_c (hP _) (by decide) (fun x => rfl) (fun n x H3 e3 hx => et_yes) (fun n x H3 e3 hx _ H4 e4 Q4 q4 => ?_))) fun p H3 hp e3 h3 => q _ H3 ((e1.trans e2).trans e3) ?_
        · obtain ⟨p, hp, rfl⟩ := Option.map_eq_some_iff.mp ((List.getElem?_map ..).symm.trans hx)
          refine ⟨_, rfl, _, rfl, d, _, rfl, ?_, q4 H4 (Ex.refl _)⟩
          rw [← hv n p hp]
          exact DGet.k (k := Sum.inr p) (e4 _ _ (e3 _ _ (e2 _ _ h1)))
        · rw [hF]
          refine ⟨p, rfl, ?_⟩
          rw [h3, given_true]
          obtain ⟨x1, x2, x3, x4, rfl⟩ := four_shape hF
          rfl
def sp_crossing_of (K : PySem.W.Frag) (ts : List Addr) : Sp := fun vs H Q _ => ∃ (a : Addr) (hs : List Str) (m : Nat), vs = [.ref a] ∧ SqT K H a (hs.map V.str) ∧ (hs ≠ [] ∧ hs.length < 1000 ∧ m ≤ 1000 ∧ ∀ h ∈ hs, HalfS m h) ∧ ∀ r v H2, IsCross (four (srt hs)) m r → Ex H H2 → ResX H2 v r → Q v H2
theorem ok_crossing_of {ts : List Addr} (D : Df K mg "crossing_of" st_crossing_of ["halves"]) (m_sorted : mg "sorted" = none) (m_set : mg "set" = none) (m_len : mg "len" = none) (m_range : mg "range" = none) (A_four_at : At P w K mg base "four_at" st_four_at 2 ["rising", "first", "second"] (sp_four_at K ts)) : At P w K mg base "crossing_of" st_crossing_of 3 ["halves"] (sp_crossing_of K ts) := by
  obtain ⟨f, fd, F, b, g⟩ := D
  obtain ⟨f_four_at, fd_four_at, F_four_at, b_four_at, g_four_at, G_four_at⟩ := A_four_at
  refine ⟨f, fd, F, b, g, F.ok sc_crossing_of (fun vs H Q E h => ?_) (fun cdv A outer s H vs Q E hr h => ?_)⟩
  · obtain ⟨a, hs, m, rfl, _⟩ := h
    rfl
  · obtain ⟨a, hs, m, rfl, hS, ⟨h0, hl, hm, hh⟩, q⟩ := h
    refine ⟨_, (pss_cons (ps_set (i := 1) sc_crossing_of.nd rfl (.inl rfl) (Hid.pe_sortSet rfl hr.units (by rfl) m_sorted (by rfl) m_set (pv 0)))
      (pss_cons (ps_set (i := 2) sc_crossing_of.nd rfl (.inl rfl) (pe_callB call_len_str (by rfl) m_len (by decide +kernel) (pa_cons (pe_ix ix_list (pv 1) pe_int (fun _ _ => rfl)) pa_nil)))
      (pss_cons (ps_for PassesOwn.never rfl (pi_range1 (by rfl) m_range (pa_cons (pv 2) pa_nil)) (pg_name (i := 3) sc_crossing_of.nd rfl (.inl rfl))
      (pss_one (ps_for PassesOwn.never rfl (pi_range2 (by rfl) m_range (pa_cons (pe_op op_add (pv 3) pe_int) (pa_cons (pv 2) pa_nil))) (pg_name (i := 4) sc_crossing_of.nd rfl (.inl rfl))
      (pss_cons (ps_set (i := 5) sc_crossing_of.nd rfl (.inl rfl) (pe_call G_four_at (hr.mono (by decide)) (by rfl) g_four_at F_four_at.kp b_four_at .nil pass0 (pa_cons (pv 1) (pa_cons (pv 3) (pa_cons (pv 4) pa_nil)))))
      (pss_one (ps_if (pt_cmpR op_notN (pv 5) pe_non (nomark _))
      (pss_one (ps_ret (pe_tup (pa_cons (pv 3) (pa_cons (pv 4) (pa_cons (pv 5) pa_nil))))))
      pss_nil))))))
      (pss_one (ps_ret pe_non))))), ?_⟩
    refine ⟨_, rfl, a, hs, rfl, hS, by omega, fun ys p hri hyl hme hp => ?_⟩
    have hf : four ys = four (srt hs) := four_same (rise_sorted hri) (srt_sorted hs) fun x => (hme x).trans mem_srt.symm
    have hy : ∀ h ∈ ys, HalfS m h := fun h hx => hh h ((hme h).mp hx)
    obtain ⟨y0, yr, rfl⟩ : ∃ y0 yr, ys = y0 :: yr := by
      cases ys with
      | cons y0 yr => exact ⟨y0, yr, rfl⟩
      | nil =>
        cases hs with
        | nil => exact absurd rfl h0
        | cons z zs => exact absurd ((hme z).mpr List.mem_cons_self) (by simp)
    generalize hys : y0 :: yr = ys at *
    have hy0 : HalfS m y0 := hy y0 (by rw [← hys]; exact List.mem_cons_self)
    have hat : atI (ys.map V.str) (0 : Int) = some (.str y0) := atI_nat (j := 0) (by rw [← hys]; rfl)
    have hlen0 : y0.length = m := hy0.1
    rw [← hf] at q
    refine q_asg (v := .int m) (ev_is (ev_lenS (ev_op (ev_var rfl) ev_c (rv_ixL (sq_of upd_same) hat)) (by omega)) (by rw [hlen0])) fun H1 e1 => ?_
    have eb : Ex H (upd H p (.lst (ys.map V.str))) := Ex.new hp
    have h1 : H1 p = some (.lst (ys.map V.str)) := e1 _ _ upd_same
    refine q_forR1 (ea_cons (ev_var rfl) ea_nil) ⟨by omega, by omega⟩ (fun n σ' H' => ∃ y3 y4 y5 : Option V, σ' = [some (.ref a), some (.ref p), some (.int m), y3, y4, y5] ∧ Ex H1 H' ∧ ∀ i' j', i' < j' → j' < m → i' < n → four ys i' j' = none) (fun H2 e2 => ⟨_, _, _, rfl, e2, fun _ _ _ _ z => absurd z (Nat.not_lt_zero _)⟩) (fun n σ' H2 hn hP => ?_) (fun σ' H2 hP => ?_)
    · obtain ⟨y3, y4, y5, rfl, e2, old⟩ := hP
      refine s_forR2 (lo := (n : Int) + 1) (n := (m : Int)) (ea_cons (ev_op (ev_var rfl) ev_c rv_I0) (ea_cons (ev_var rfl) ea_nil)) ⟨by omega, by omega, by omega, by omega⟩ (fun k σ' H' => ∃ y4 y5 : Option V, σ' = [some (.ref a), some (.ref p), some (.int m), some (.int n), y4, y5] ∧ Ex H1 H' ∧ ∀ j', n < j' → j' < n + 1 + k → j' < m → four ys n j' = none) (fun H3 e3 => ⟨_, _, rfl, e2.trans e3, fun _ a b _ => by omega⟩) (fun k σ' H3 hk hP => ?_) (fun σ' H3 hP => ?_)
      · obtain ⟨y4, y5, rfl, e3, new⟩ := hP
        have hj : (n : Int) + 1 + (k : Int) = ((n + 1 + k : Nat) : Int) := by omega
        rw [hj]
        refine c_call (ea_cons (ev_var rfl) (ea_cons (ev_var rfl) (ea_cons (ev_var rfl) ea_nil))) fun H4 e4 => ⟨p, ys, n, n + 1 + k, m, rfl, sq_of (e4 _ _ (e3 _ _ h1)), ⟨hy, by omega, by omega, by omega, hm⟩, fun v H5 e5 hv => ?_⟩
        cases hfo : four ys n (n + 1 + k) with
        | none =>
          rw [hfo] at hv
          obtain rfl : v = .non := hv
          refine s_when (et_test (ev_op (ev_var rfl) ev_c rv_notN)) (fun hb H6 e6 => absurd hb (by decide)) (fun hb H6 e6 => ?_)
          refine ⟨_, _, rfl, ((e3.trans e4).trans e5).trans e6, fun j' a b c => ?_⟩
          by_cases hjj : j' = n + 1 + k
          · rw [hjj]; exact hfo
          · exact new j' a (by omega) c
        | some F =>
          rw [hfo] at hv
          obtain ⟨z, rfl, hz⟩ := hv
          refine s_when (et_test (ev_op (ev_var rfl) ev_c rv_notN)) (fun hb H6 e6 => ?_) (fun hb H6 e6 => ?_)
          · refine s_retU (eu_tup (ea_cons (ev_var rfl) (ea_cons (ev_var rfl) (ea_cons (ev_var rfl) ea_nil))) (by show 3 ≤ 100000; decide)) fun t H7 ht e7 h7 => ?_
            refine q (some (n, n + 1 + k, F)) _ H7 ⟨by omega, by omega, hfo, fun i' j' a b c => ?_⟩ (eb.trans (e1.trans (((e3.trans e4).trans e5).trans (e6.trans e7)))) ⟨t, z, rfl, h7, e7 _ _ (e6 _ _ hz)⟩
            rcases c with c | ⟨rfl, c⟩
            · exact old i' j' a b c
            · exact new j' a c b
          · exact absurd hb (by simp)
      · obtain ⟨y4, y5, rfl, e3, new⟩ := hP
        refine ⟨_, _, _, rfl, e3, fun i' j' a b c => ?_⟩
        by_cases hii : i' = n
        · subst hii
          exact new j' a (by omega) b
        · exact old i' j' a b (by omega)
    · obtain ⟨y3, y4, y5, rfl, e2, old⟩ := hP
      exact s_ret ev_c fun H3 e3 => q none _ H3 (fun i j a b => old i j a b (by omega)) (eb.trans (e1.trans (e2.trans e3))) rfl
def sp__law_crossing (K : PySem.W.Frag) (ts : List Addr) : Sp := fun vs H Q _ => ∃ (a : Addr) (hs : List Str) (m : Nat), vs = [.ref a] ∧ SqT K H a (hs.map V.str) ∧ (hs ≠ [] ∧ hs.length < 1000 ∧ m ≤ 1000 ∧ ∀ h ∈ hs, HalfS m h) ∧ ∀ r v H2, IsCross (four (srt hs)) m r → Ex H H2 → ResX H2 v r → Q v H2
theorem ok__law_crossing {ts : List Addr} (D : Df K mg "_law_crossing" st__law_crossing ["_law_halves_here"]) (m_sorted : mg "sorted" = none) (m_range : mg "range" = none) (m_len : mg "len" = none) (m_tuple : mg "tuple" = none) : At P w K mg base "_law_crossing" st__law_crossing 1 ["_law_halves_here"] (sp__law_crossing K ts) := by
  obtain ⟨f, fd, F, b, g⟩ := D
  refine ⟨f, fd, F, b, g, F.ok sc__law_crossing (fun vs H Q E h => ?_) (fun cdv A outer s H vs Q E hr h => ?_)⟩
  · obtain ⟨a, hs, m, rfl, _⟩ := h
    rfl
  · obtain ⟨a, hs, m, rfl, hS, ⟨h0, hl, hm, hh⟩, q⟩ := h
    refine ⟨_, (pss_cons (ps_set (i := 1) sc__law_crossing.nd rfl (.inl rfl) (pe_callB (Hid.cr_sortedT hr.units) (by rfl) m_sorted (by decide +kernel) (pa_cons (pv 0) pa_nil)))
      (pss_cons (ps_for PassesOwn.never rfl (pi_range1 (by rfl) m_range (pa_cons (pe_callB call_len_str (by rfl) m_len (by decide +kernel) (pa_cons (pe_ix ix_tup (pv 0) pe_int (fun _ _ => rfl)) pa_nil)) pa_nil)) (pg_name (i := 2) sc__law_crossing.nd rfl (.inr rfl))
      (pss_one (ps_for PassesOwn.never rfl (pi_range2 (by rfl) m_range (pa_cons (pe_op op_add (pv 2) pe_int) (pa_cons (pe_callB call_len_str (by rfl) m_len (by decide +kernel) (pa_cons (pe_ix ix_tup (pv 0) pe_int (fun _ _ => rfl)) pa_nil)) pa_nil))) (pg_name (i := 3) sc__law_crossing.nd rfl (.inr rfl))
      (pss_cons (ps_set (i := 4) sc__law_crossing.nd rfl (.inl rfl) (pe_lst pa_nil))
      (pss_cons (ps_for PassesOwn.never rfl (pi_list (pe_lst (pa_cons pe_str (pa_cons pe_str (pa_cons pe_str (pa_cons pe_str pa_nil)))))) (pg_name (i := 5) sc__law_crossing.nd rfl (.inr rfl))
      (pss_one (ps_expr (pe_bm PySem.F.plainAttrs_list PySem.F.slot_list_extend PySem.F.type_list_extend mt_extend (pv 4) (pa_cons (pe_slice sl_list (pe_lc (own := [("_law_half", 6)]) (g := gName 6) (by rfl) sc__law_crossing.nd (pi_list (pv 1)) (blkOk_by (N := ["_law_halves_here", "_law_rising", "_law_one", "_law_other_here", "_law_four", "_law_pair", "_law_half"]) (sc := defScope st__law_crossing) (by decide +kernel)) (fun _ _ _ _ _ => (pg_name (i := 6) sc__law_crossing.nd rfl (.inl rfl))) (fun _ _ _ _ _ => (pts_one (pt_cmpR op_eq (pe_op op_add_str (pe_ix ix_str (pv 6) (pv 2) (fun _ _ => rfl)) (pe_ix ix_str (pv 6) (pv 3) (fun _ _ => rfl))) (pv 5) (nomark _)))) (fun _ _ _ _ _ => (pv 6))) po_none (po_some pe_int)) pa_nil)))))
      (pss_one (ps_if (pt_cmpR op_eq (pe_callB call_len_seq (by rfl) m_len (by decide +kernel) (pa_cons (pv 4) pa_nil)) pe_int (nomark _))
      (pss_one (ps_ret (pe_tup (pa_cons (pv 2) (pa_cons (pv 3) (pa_cons (pe_callTy call_tuple_of (by rfl) m_tuple (by decide +kernel) (pa_cons (pv 4) pa_nil)) pa_nil))))))
      pss_nil)))))))
      (pss_one (ps_ret pe_non)))), ?_⟩
    refine ⟨_, rfl, a, hs, rfl, hS, by omega, fun p hp => ?_⟩
    obtain ⟨y0, yr, rfl⟩ : ∃ y0 yr, hs = y0 :: yr := by
      cases hs with
      | cons y0 yr => exact ⟨y0, yr, rfl⟩
      | nil => exact absurd rfl h0
    have hy0 : HalfS m y0 := hh y0 List.mem_cons_self
    have hlen0 : y0.length = m := hy0.1
    have hat : atI ((y0 :: yr).map V.str) (0 : Int) = some (.str y0) := atI_nat (j := 0) rfl
    show tSeq _ _ _ [some (.ref a), some (.ref p), none, none, none, none, none] (upd H p (.lst ((srt (y0 :: yr)).map V.str)))
    generalize hrs : srt (y0 :: yr) = rs at *
    have hy : ∀ h ∈ rs, HalfS m h := fun h hx => hh h (by rw [← hrs] at hx; exact mem_srt.mp hx)
    have hrl : rs.length < 1000 := by rw [← hrs, srt_len]; exact hl
    have eb : Ex H (upd H p (.lst (rs.map V.str))) := Ex.new hp
    generalize hH1 : upd H p (.lst (rs.map V.str)) = H1 at eb ⊢
    have h1 : H1 p = some (.lst (rs.map V.str)) := by rw [← hH1]; exact upd_same
    have hS1 : SqT K H1 a ((y0 :: yr).map V.str) := ex_t eb hS
    have hlen : ∀ {σ : L2.St} {G : Hp}, Ex H1 G → σ[0]? = some (some (.ref a)) → Ev (tCB (fun xs H Q => ∃ z, xs = [V.str z] ∧ z.length ≤ sizeLine ∧ Q (.int z.length) H) (tCons (tOp (rIxT K) (tVar 0) (tC (.int 0))) tNil)) σ G (.int m) := fun {σ G} eg h => ev_is (ev_lenS (ev_op (ev_var h) ev_c (rv_ixT (ex_t eg hS1) hat)) (by omega)) (by rw [hlen0])
    refine q_forR1 (n := (m : Int)) (ea_cons (hlen (Ex.refl _) rfl) ea_nil) ⟨by omega, by omega⟩ (fun n σ' H' => ∃ y2 y3 y4 y5 : Option V, σ' = [some (.ref a), some (.ref p), y2, y3, y4, y5, none] ∧ Ex H1 H' ∧ ∀ i' j', i' < j' → j' < m → i' < n → four rs i' j' = none) (fun H2 e2 => ⟨none, none, none, none, rfl, e2, fun _ _ _ _ z => absurd z (Nat.not_lt_zero _)⟩) (fun n σ' H2 hn hP => ?_) (fun σ' H2 hP => ?_)
    · obtain ⟨y2, y3, y4, y5, rfl, e2, old⟩ := hP
      refine s_forR2 (lo := (n : Int) + 1) (n := (m : Int)) (ea_cons (ev_op (ev_var rfl) ev_c rv_I0) (ea_cons (hlen e2 rfl) ea_nil)) ⟨by omega, by omega, by omega, by omega⟩ (fun k σ' H' => ∃ y3 y4 y5 : Option V, σ' = [some (.ref a), some (.ref p), some (.int n), y3, y4, y5, none] ∧ Ex H1 H' ∧ ∀ j', n < j' → j' < n + 1 + k → j' < m → four rs n j' = none) (fun H3 e3 => ⟨_, _, _, rfl, e2.trans e3, fun _ a b _ => by omega⟩) (fun k σ' H3 hk hP => ?_) (fun σ' H3 hP => ?_)
      · obtain ⟨y3, y4, y5, rfl, e3, new⟩ := hP
        have hj : (n : Int) + 1 + (k : Int) = ((n + 1 + k : Nat) : Int) := by omega
        rw [hj]
        generalize hjj : n + 1 + k = j at *
        have hjm : j < m := by omega
        have hnm : n < m := by omega
        refine q_asgL (el_lst ea_nil (by decide)) fun l H4 hl4 e4 h4 => ?_
        have nl : H1 l = none := fresh_back e3 hl4
        refine q_forNLn (el_lst (ea_cons ev_c (ea_cons ev_c (ea_cons ev_c (ea_cons ev_c ea_nil)))) (by decide)) (fun pl c σ' H' => ∃ y5 : Option V, σ' = [some (.ref a), some (.ref p), some (.int n), some (.int j), some (.ref l), y5, none] ∧ Ex H1 H' ∧ pl ≠ l ∧ H' pl = some (.lst (prs.map V.str)) ∧ H' l = some (.lst ((accN rs n j c).map V.str))) (fun pl H5 hp5 e5 h5 => ⟨_, rfl, (e3.trans e4).trans e5, fun z => ?_, h5, e5 _ _ h4⟩) (fun pl c σ' H5 _ hP => ?_) (fun pl c x σ' H5 hx hP => ?_) (fun pl σ' H5 hP => ?_)
        · rw [z, h4] at hp5
          cases hp5
        · obtain ⟨y5, _, _, _, h5, _⟩ := hP
          exact sq_of h5
        · obtain ⟨y5, rfl, e5, hne, h5, h6⟩ := hP
          have hx2 : (prs.map V.str)[c]? = some x := hx
          rw [List.getElem?_map] at hx2
          obtain ⟨pr, hpr, rfl⟩ := Option.map_eq_some_iff.mp hx2
          refine ⟨_, rfl, .inl ⟨rfl, _, sq_of h6⟩, (el_slN (el_lcL (fun c => decide (prAt (rs.getD c Str.empty) n j = pr)) (fun c => .str (rs.getD c Str.empty)) (ev_var rfl) (sq_of (e5 _ _ h1)) (by rw [List.length_map]; omega) (fun x => rfl) (fun c x H6 e6 hc => ?_) (fun c x H6 e6 hc _ => ?_)) eo_none (eo_some ev_c)) _ (Ex.refl _) _ fun z H6 hz e6 h7 => ⟨l, z, _, _, rfl, rfl, e6 _ _ h6, h7, ?_, ?_⟩⟩
          · obtain ⟨h, hh1, rfl⟩ := Option.map_eq_some_iff.mp ((List.getElem?_map ..).symm.trans hc)
            have hhS := hy h (List.mem_of_getElem? hh1)
            have hl7 : h.length ≤ 100000 := by show h.cps.size ≤ 100000; rw [hhS.1]; omega
            have eg : rs.getD c Str.empty = h := by rw [List.getD_eq_getElem?_getD, hh1]; rfl
            refine et_is (et_test (ev_op (ev_is (ev_op (ev_op (ev_var rfl) (ev_var rfl) (rv_ixS hl7 (at_sg hhS hnm))) (ev_op (ev_var rfl) (ev_var rfl) (rv_ixS hl7 (at_sg hhS hjm))) (rv_catS (by show 1 ≤ 1000; decide) (by show 1 ≤ 1000; decide))) (show _ = V.str (prAt h n j) from rfl)) (ev_var rfl) (rv_eq rfl))) ?_
            rw [eg]
            exact decide_eq_decide.mpr ⟨fun z => V.str.inj z, fun z => by rw [z]⟩
          · obtain ⟨h, hh1, rfl⟩ := Option.map_eq_some_iff.mp ((List.getElem?_map ..).symm.trans hc)
            exact ev_is (ev_var rfl) (by rw [List.getD_eq_getElem?_getD, hh1]; rfl)
          · have h8 := accN_len rs n j c
            rw [List.length_map, List.length_map, given_filter rs fun h => decide (prAt h n j = pr), cut_one, List.length_map]
            have h9 := opt_len (rs.find? fun h => decide (prAt h n j = pr))
            exact sz_of (by omega)
          · refine ⟨_, rfl, (e5.trans e6).mut nl, hne, ?_, ?_⟩
            · rw [upd_ne hne]
              exact e6 _ _ h5
            · rw [upd_same, accN_step rs n j c hpr, List.map_append, List.length_map, given_filter rs fun h => decide (prAt h n j = pr), cut_one]
              rfl
        · obtain ⟨y5, rfl, e5, hne, h5, h6⟩ := hP
          have h6' : H5 l = some (.lst ((accN rs n j 4).map V.str)) := h6
          rcases accN_four rs n j with ⟨hfo, hal⟩ | ⟨F, hfo, hal⟩
          · refine s_when (et_test (ev_op (ev_len (ev_var rfl) (sq_of h6')) ev_c (rv_eq rfl))) (fun hb H6 e6 => ?_) (fun hb H6 e6 => ?_)
            · exfalso
              have := V.int.inj (of_decide_eq_true hb)
              rw [List.length_map] at this
              omega
            · refine ⟨_, _, _, rfl, e5.trans e6, fun j' a b c => ?_⟩
              by_cases hq : j' = j
              · rw [hq]; exact hfo
              · exact new j' a (by omega) c
          · refine s_when (et_test (ev_op (ev_len (ev_var rfl) (sq_of h6')) ev_c (rv_eq rfl))) (fun hb H6 e6 => ?_) (fun hb H6 e6 => ?_)
            · refine ⟨_, rfl, _, rfl, (eu_tupOfV (ev_var rfl) (sq_of (e6 _ _ h6'))) _ (Ex.refl _) _ fun z H7 hz e7 h7 => ⟨sz_of (by show 3 ≤ 100000; decide), fun t ht => ?_⟩⟩
              refine q (some (n, j, F)) _ _ ⟨by omega, hjm, hfo, fun i' j' a b c => ?_⟩ (eb.trans (e5.trans ((e6.trans e7).trans (Ex.new ht)))) ⟨t, z, rfl, upd_same, ?_⟩
              · rcases c with c | ⟨rfl, c⟩
                · exact old i' j' a b c
                · exact new j' a (by omega) b
              · rw [upd_ne (ne_of_none h7 ht), ← hal]
                exact h7
            · exfalso
              obtain ⟨x1, x2, x3, x4, rfl⟩ := four_shape hfo
              have := of_decide_eq_false hb
              rw [hal] at this
              exact this rfl
      · obtain ⟨y3, y4, y5, rfl, e3, new⟩ := hP
        refine ⟨_, _, _, _, rfl, e3, fun i' j' a b c => ?_⟩
        by_cases hii : i' = n
        · subst hii
          exact new j' a (by omega) b
        · exact old i' j' a b (by omega)
    · obtain ⟨y2, y3, y4, y5, rfl, e2, old⟩ := hP
      exact s_ret ev_c fun H3 e3 => q none _ H3 (fun i j a b => old i j a b (by omega)) (eb.trans (e2.trans e3)) rfl
def sp__law_any_half (K : PySem.W.Frag) (ts : List Addr) : Sp := fun vs H Q _ => ∃ (x : Int) (n : Nat), vs = [.int x, .int n] ∧ n ≤ 1000 ∧ RetV (.str (anyH x n)) H Q
theorem ok__law_any_half {ts : List Addr} (D : Df K mg "_law_any_half" st__law_any_half ["_law_x", "_law_places"]) (m_range : mg "range" = none) : At P w K mg base "_law_any_half" st__law_any_half 1 ["_law_x", "_law_places"] (sp__law_any_half K ts) := by
  obtain ⟨f, fd, F, b, g⟩ := D
  refine ⟨f, fd, F, b, g, F.ok sc__law_any_half (fun vs H Q E h => ?_) (fun cdv A outer s H vs Q E hr h => ?_)⟩
  · obtain ⟨x, n, rfl, _⟩ := h
    rfl
  · obtain ⟨x, n, rfl, hn, q⟩ := h
    refine ⟨_, (pss_one (ps_ret (pe_join pe_str (pe_lc (own := [("_law_place", 2)]) (g := gName 2) (by rfl) sc__law_any_half.nd (pi_range1 (by rfl) m_range (pa_cons (pv 1) pa_nil)) (blkOk_by (N := ["_law_x", "_law_places", "_law_place"]) (sc := defScope st__law_any_half) (by decide +kernel)) (fun _ _ _ _ _ => (pg_name (i := 2) sc__law_any_half.nd rfl (.inl rfl))) (fun _ _ _ _ _ => pts_nil) (fun _ _ _ _ _ => (pe_ix ix_str pe_str (pe_op op_andM (pe_op op_shr (pv 0) (pv 2)) pe_int) (fun _ _ => rfl))))))), ?_⟩
    refine ⟨⟨_, rfl⟩, (el_lcR1 (n := (n : Int)) (fun _ => true) (fun k => .str (sg1 (bitc x k))) (ea_cons (ev_var rfl) ea_nil) ⟨by omega, by omega⟩ (fun y => rfl) (fun i H1 e1 hi => et_yes) (fun i H1 e1 hi _ => ?_)) _ (Ex.refl _) _ fun p H2 hp e2 h2 => ?_⟩
    · refine ev_op ev_c (ev_op (ev_op (ev_var rfl) (ev_var rfl) (rv_I (by omega))) ev_c (rv_val fun Hx ex Qx qx => ⟨_, 1, rfl, rfl, qx⟩)) (rv_ixS (by decide) ?_)
      show atI [110, 121] (x / 2 ^ ((i : Int)).toNat % 2 ^ 1) = some (bitc x i)
      rw [Int.toNat_natCast]
      unfold bitc
      have h0 := Int.emod_two_eq (x / 2 ^ i)
      rw [show (2 : Int) ^ 1 = 2 by decide]
      rcases h0 with h0 | h0 <;> rw [h0] <;> rfl
    · rw [given_true, Int.toNat_natCast] at h2
      refine r_join (l := (List.range n).map (bitc x)) (sq_of ?_) (by rw [List.length_map, List.length_range]; omega) (q H2 e2)
      rw [h2]
      show _ = some (HO.lst (List.map _ _))
      rw [List.map_map]
      rfl
def sp__law_flipped (K : PySem.W.Frag) (ts : List Addr) : Sp := fun vs H Q _ => ∃ (h : Str) (k m : Nat), vs = [.str h, .int k] ∧ (HalfS m h ∧ k < m ∧ m ≤ 1000) ∧ RetV (.str (flipH h k)) H Q
theorem ok__law_flipped {ts : List Addr} (D : Df K mg "_law_flipped" st__law_flipped ["_law_half", "_law_place"]) : At P w K mg base "_law_flipped" st__law_flipped 1 ["_law_half", "_law_place"] (sp__law_flipped K ts) := by
  obtain ⟨f, fd, F, b, g⟩ := D
  refine ⟨f, fd, F, b, g, F.ok sc__law_flipped (fun vs H Q E h => ?_) (fun cdv A outer s H vs Q E hr h => ?_)⟩
  · obtain ⟨h, k, m, rfl, _⟩ := h
    rfl
  · obtain ⟨h, k, m, rfl, ⟨hh, hk, hm⟩, q⟩ := h
    refine ⟨_, (pss_one (ps_ret (pe_op op_add_str (pe_op op_add_str (pe_slice sl_str (pv 0) po_none (po_some (pv 1))) (pe_dget (Hid.u1 hr) (pe_disp (pps_cons pe_str pe_str (pps_cons pe_str pe_str pps_nil)) (by rfl) (by rfl) (fun z => by cases z) (by decide)) (pe_ix ix_str (pv 0) (pv 1) (fun _ _ => rfl)) (fun _ _ => rfl))) (pe_slice sl_str (pv 0) (po_some (pe_op op_add (pv 1) pe_int)) po_none)))), ?_⟩
    have hlm : h.length = m := hh.1
    have hl : h.length ≤ 100000 := by omega
    have hc : sgAt h k = 110 ∨ sgAt h k = 121 := hh.2 _ (sg_mem hh hk)
    have hv : valV (mergeK [] [((Sum.inr "n" : Key), V.str "y"), (Sum.inr "y", V.str "n")]) (Sum.inr (⟨#[sgAt h k]⟩ : Str)) = some (.str ⟨#[turnc (sgAt h k)]⟩) := by
      rcases hc with z | z <;> rw [z] <;> rfl
    have l1 : (cutS h none (some (k : Int))).length ≤ 1000 := by
      show (cutS h none (some (k : Int))).cps.size ≤ 1000
      rw [cut_front hh hk]
      simp
      omega
    have l2 : (cutS h (some ((k : Int) + 1)) none).length ≤ 1000 := by
      show (cutS h (some ((k : Int) + 1)) none).cps.size ≤ 1000
      rw [cut_back hh hk, List.size_toArray, List.length_drop, Array.length_toList]
      have := hh.1
      omega
    have l3 : (cutS h none (some (k : Int)) ++ (⟨#[turnc (sgAt h k)]⟩ : Str)).length ≤ 1000 := by
      show ((cutS h none (some (k : Int))).cps ++ #[turnc (sgAt h k)]).size ≤ 1000
      rw [cut_front hh hk]
      simp
      omega
    refine s_ret (ev_op (ev_op (ev_slS (ev_var rfl) eo_none (eo_some (ev_var rfl)) hl) (fun H1 e1 Q1 q1 => fun p hp => ⟨upd_same, [(Sum.inr "n", V.str "y"), (Sum.inr "y", V.str "n")], rfl, by decide, ?_⟩) (rv_catS l1 (by show 1 ≤ 1000; decide))) (ev_slS (ev_var rfl) (eo_some (ev_op (ev_var rfl) ev_c rv_I0)) eo_none hl) (rv_catS l3 l2)) fun H1 e1 => q H1 e1
    have eh : Ex H1 (upd (upd H1 p (.dK [])) p (.dK (mergeK [] [((Sum.inr "n" : Key), V.str "y"), (Sum.inr "y", V.str "n")]))) := (Ex.new hp).mut hp
    refine (ev_op (r := rIxS) (z := .str ⟨#[sgAt h k]⟩) (ev_var rfl) (ev_var rfl) (rv_ixS hl (at_sg hh hk))) _ (e1.trans eh) _ fun H2 e2 => ⟨p, _, rfl, ?_, q1 H2 (eh.trans e2)⟩
    rw [← hv]
    exact DGet.k (k := Sum.inr (⟨#[sgAt h k]⟩ : Str)) (e2 _ _ upd_same)
def sp__law_tree_halves (K : PySem.W.Frag) (ts : List Addr) : Sp := fun vs H Q _ => ∃ (a : Addr) (xs : List Int) (n : Nat), vs = [.ref a, .int n] ∧ SqL K H a (xs.map V.int) ∧ (xs.length = 12 ∧ (∀ x ∈ xs, 0 ≤ x) ∧ 1 ≤ n ∧ n ≤ 8) ∧ ∀ ks : List Str, ks ≠ [] → ks.length ≤ 9 → (∀ k ∈ ks, HalfS n k) → RetL (ks.map V.str) H Q
theorem ok__law_tree_halves {ts : List Addr} (D : Df K mg "_law_tree_halves" st__law_tree_halves ["_law_xs", "_law_places"]) (m_range : mg "range" = none) (m_len : mg "len" = none) (A__law_any_half : At P w K mg base "_law_any_half" st__law_any_half 1 ["_law_x", "_law_places"] (sp__law_any_half K ts)) (A__law_flipped : At P w K mg base "_law_flipped" st__law_flipped 1 ["_law_half", "_law_place"] (sp__law_flipped K ts)) : At P w K mg base "_law_tree_halves" st__law_tree_halves 2 ["_law_xs", "_law_places"] (sp__law_tree_halves K ts) := by
  obtain ⟨f, fd, F, b, g⟩ := D
  obtain ⟨f__law_any_half, fd__law_any_half, F__law_any_half, b__law_any_half, g__law_any_half, G__law_any_half⟩ := A__law_any_half
  obtain ⟨f__law_flipped, fd__law_flipped, F__law_flipped, b__law_flipped, g__law_flipped, G__law_flipped⟩ := A__law_flipped
  refine ⟨f, fd, F, b, g, F.ok sc__law_tree_halves (fun vs H Q E h => ?_) (fun cdv A outer s H vs Q E hr h => ?_)⟩
  · obtain ⟨a, xs, n, rfl, _⟩ := h
    rfl
  · obtain ⟨a, xs, n, rfl, hS, ⟨hxl, hxp, hn1, hn8⟩, q⟩ := h
    refine ⟨_, (pss_cons (ps_set (i := 2) sc__law_tree_halves.nd rfl (.inl rfl) (pe_lst (pa_cons (pe_call G__law_any_half (hr.mono (by decide)) (by rfl) g__law_any_half F__law_any_half.kp b__law_any_half .nil pass0 (pa_cons (pe_ix ix_list (pv 0) pe_int (fun _ _ => rfl)) (pa_cons (pv 1) pa_nil))) pa_nil)))
      (pss_cons (ps_for PassesOwn.never rfl (pi_range1 (by rfl) m_range (pa_cons (pv 1) pa_nil)) (pg_name (i := 3) sc__law_tree_halves.nd rfl (.inl rfl))
      (pss_cons (ps_set (i := 4) sc__law_tree_halves.nd rfl (.inl rfl) (pe_ix ix_list (pv 0) (pe_op op_add pe_int (pv 3)) (fun _ _ => rfl)))
      (pss_one (ps_if (pt_cmpR op_gt (pe_op op_mod (pv 4) pe_int) pe_int (nomark _))
      (pss_cons (ps_set (i := 5) sc__law_tree_halves.nd rfl (.inl rfl) (pe_call G__law_flipped (hr.mono (by decide)) (by rfl) g__law_flipped F__law_flipped.kp b__law_flipped .nil pass0 (pa_cons (pe_ix ix_list (pv 2) (pe_op op_mod (pe_op op_fdiv (pv 4) pe_int) (pe_callB call_len_seq (by rfl) m_len (by decide +kernel) (pa_cons (pv 2) pa_nil))) (fun _ _ => rfl)) (pa_cons (pv 3) pa_nil))))
      (pss_one (ps_if (PW.pt (pw_and (pt_cmpR op_eq (pe_op op_mod (pe_op op_fdiv (pv 4) pe_int) pe_int) pe_int (nomark _)) (pw_and (pt_cmpR op_gt (pv 3) pe_int (nomark _)) (pw_and1 (pt_cmpR op_gt (pe_callB call_len_seq (by rfl) m_len (by decide +kernel) (pa_cons (pv 2) pa_nil)) pe_int (nomark _))))))
      (pss_one (ps_asg (pe_call G__law_flipped (hr.mono (by decide)) (by rfl) g__law_flipped F__law_flipped.kp b__law_flipped .nil pass0 (pa_cons (pe_ix ix_list (pv 2) (pe_un un_neg pe_int) (fun _ _ => rfl)) (pa_cons (pv 3) pa_nil))) (pg_sub (pv 2) (pe_un un_neg pe_int) set_list)))
      (pss_one (ps_expr (pe_bm PySem.F.plainAttrs_list PySem.F.slot_list_append PySem.F.type_list_append mt_append (pv 2) (pa_cons (pv 5) pa_nil)))))))
      pss_nil))))
      (pss_one (ps_ret (pv 2))))), ?_⟩
    have hix : ∀ (j : Nat), j < 12 → ∃ v : Int, 0 ≤ v ∧ atI (xs.map V.int) (j : Int) = some (.int v) := fun j hj => ⟨xs[j], hxp _ (List.getElem_mem _), atI_nat (by rw [List.getElem?_map, List.getElem?_eq_getElem (by omega)]; rfl)⟩
    obtain ⟨v0, p0, a0⟩ := hix 0 (by decide)
    refine q_asgL (el_lst (ea_cons (ev_call (z := .str (anyH v0 n)) (ea_cons (ev_op (ev_var rfl) ev_c (rv_ixL hS a0)) (ea_cons (ev_var rfl) ea_nil)) fun H1 e1 Q1 q1 E1 => ⟨v0, n, rfl, by omega, q1⟩) ea_nil) (by show 1 ≤ 100000; decide)) fun l H2 nl eb h2 => ?_
    refine q_forR1 (ea_cons (ev_var rfl) ea_nil) ⟨by omega, by omega⟩ (fun i σ' H' => ∃ (ks : List Str) (y3 y4 y5 : Option V), σ' = [some (.ref a), some (.int n), some (.ref l), y3, y4, y5] ∧ Ex H H' ∧ ks ≠ [] ∧ ks.length ≤ 1 + i ∧ (∀ k ∈ ks, HalfS n k) ∧ H' l = some (.lst (ks.map V.str))) (fun H3 e3 => ⟨[anyH v0 n], _, _, _, rfl, eb.trans e3, by simp, by simp, fun k hk => ?_, e3 _ _ h2⟩) (fun i σ' H3 hi hP => ?_) (fun σ' H3 hP => ?_)
    · rw [List.mem_singleton.mp hk]
      exact any_half v0 n
    · obtain ⟨ks, y3, y4, y5, rfl, e3, k0, kl, kh, h3⟩ := hP
      have hin : i < n := by omega
      obtain ⟨x, px, ax⟩ := hix (1 + i) (by omega)
      refine q_asg (v := .int x) (ev_op (ev_var rfl) (ev_op ev_c (ev_var rfl) rv_I0) (rv_ixL (ex_l e3 hS) (by show atI (xs.map V.int) (1 + (i : Int)) = _; rw [← ax]; congr 1))) fun H4 e4 => ?_
      have h4 : H4 l = some (.lst (ks.map V.str)) := e4 _ _ h3
      have hkl : 0 < ks.length := List.length_pos_iff.mpr k0
      refine s_when (et_test (ev_op (ev_op (ev_var rfl) ev_c (rv_I (by show (0 : Int) < 8; decide))) ev_c rv_I0)) (fun hb H5 e5 => ?_) (fun hb H5 e5 => ⟨ks, _, _, _, rfl, (e3.trans e4).trans e5, k0, by omega, kh, e5 _ _ h4⟩)
      have h5 : H5 l = some (.lst (ks.map V.str)) := e5 _ _ h4
      have hj0 : 0 ≤ x / 8 % (ks.length : Int) := Int.emod_nonneg _ (by omega)
      have hj1 : x / 8 % (ks.length : Int) < ks.length := Int.emod_lt_of_pos _ (by omega)
      have hjl : (x / 8 % (ks.length : Int)).toNat < ks.length := by omega
      have aj : atI (ks.map V.str) (x / 8 % ((ks.map V.str).length : Int)) = some (.str ks[(x / 8 % (ks.length : Int)).toNat]) := by
        rw [List.length_map]
        have := atI_nat (xs := ks.map V.str) (j := (x / 8 % (ks.length : Int)).toNat) (v := .str ks[(x / 8 % (ks.length : Int)).toNat]) (by rw [List.getElem?_map, List.getElem?_eq_getElem hjl]; rfl)
        rwa [Int.toNat_of_nonneg hj0] at this
      obtain ⟨hf, hhf⟩ : ∃ z, z = flipH ks[(x / 8 % (ks.length : Int)).toNat] i := ⟨_, rfl⟩
      refine q_asg (v := .str hf) (ev_call (ea_cons (ev_op (ev_var rfl) (ev_op (ev_op (ev_var rfl) ev_c (rv_I ⟨by decide, by decide⟩)) (ev_len (ev_var rfl) (sq_of h5)) (rv_I (by show (0 : Int) < ((ks.map V.str).length : Int); rw [List.length_map]; omega))) (rv_ixL (sq_of h5) aj)) (ea_cons (ev_var rfl) ea_nil)) fun H6 e6 Q6 q6 E6 => ⟨_, i, n, rfl, ⟨kh _ (List.getElem_mem hjl), hin, by omega⟩, by rw [← hhf]; exact q6⟩) fun H7 e7 => ?_
      have h7 : H7 l = some (.lst (ks.map V.str)) := e7 _ _ h5
      have e37 : Ex H H7 := e3.trans (e4.trans (e5.trans e7))
      have hfl : HalfS n hf := by rw [hhf]; exact flip_ok (kh _ (List.getElem_mem hjl)) hin
      refine s_if (et_and (et_test (ev_op (ev_op (ev_op (ev_var rfl) ev_c (rv_I ⟨by decide, by decide⟩)) ev_c (rv_I (by show (0 : Int) < 4; decide))) ev_c (rv_eq rfl))) fun _ => et_and (et_test (ev_op (ev_var rfl) ev_c rv_I0)) fun _ => et_test (ev_op (ev_len (ev_var rfl) (sq_of h7)) ev_c rv_I0)) (fun hb2 H8 e8 => ?_) (fun hb2 H8 e8 => ?_)
      · have h8 : H8 l = some (.lst (ks.map V.str)) := e8 _ _ h7
        have hlast : ks.length - 1 < ks.length := by omega
        have il : ixN (ks.map V.str).length (-1) = some (ks.length - 1) := by
          unfold ixN
          rw [List.length_map, if_neg (by decide), if_pos (by omega)]
          congr 1
          omega
        have al : atI (ks.map V.str) (-1) = some (.str ks[ks.length - 1]) := by
          unfold atI
          rw [il]
          show (ks.map V.str)[ks.length - 1]? = _
          rw [List.getElem?_map, List.getElem?_eq_getElem hlast]
          rfl
        refine c_call (ea_cons (ev_op (ev_var rfl) (ev_un ev_c ru_neg) (rv_ixL (sq_of h8) al)) (ea_cons (ev_var rfl) ea_nil)) fun H9 e9 => ⟨_, i, n, rfl, ⟨kh _ (List.getElem_mem hlast), hin, by omega⟩, fun H10 e10 => ?_⟩
        have h10 : H10 l = some (.lst (ks.map V.str)) := e10 _ _ (e9 _ _ h8)
        have hf2 : HalfS n (flipH ks[ks.length - 1] i) := flip_ok (kh _ (List.getElem_mem hlast)) hin
        generalize flipH ks[ks.length - 1] i = hg at hf2 ⊢
        refine ⟨_, rfl, 1, rfl, l, _, -1, _, rfl, rfl, h10, il, ?_⟩
        refine ⟨ks.set (ks.length - 1) hg, _, _, _, rfl, (e37.trans (e8.trans (e9.trans e10))).mut nl, fun z => ?_, by rw [List.length_set]; omega, fun k hk => ?_, ?_⟩
        · rw [List.set_eq_nil_iff] at z
          exact k0 z
        · rcases List.mem_or_eq_of_mem_set hk with z | z
          · exact kh k z
          · rw [z]; exact hf2
        · rw [upd_same, List.map_set]
      · have h8 : H8 l = some (.lst (ks.map V.str)) := e8 _ _ h7
        refine s_app h8 (ev_var rfl) (ev_var rfl) (by rw [List.length_map]; omega) fun H9 e9 => ⟨ks ++ [hf], _, _, _, rfl, ((e37.trans e8).trans e9).mut nl, by simp, by simp; omega, fun k hk => ?_, ?_⟩
        · rcases List.mem_append.mp hk with z | z
          · exact kh k z
          · rw [List.mem_singleton.mp z]; exact hfl
        · rw [upd_same, List.map_append]
          rfl
    · obtain ⟨ks, y3, y4, y5, rfl, e3, k0, kl, kh, h3⟩ := hP
      exact s_ret (ev_var rfl) fun H4 e4 => q ks k0 (by omega) kh l H4 nl (e3.trans e4) (e4 _ _ h3)
def sp__law_halves (K : PySem.W.Frag) (ts : List Addr) : Sp := fun vs H Q _ => ∃ (a : Addr) (ns : List Int) (k : Int), vs = [.ref a, .int k] ∧ SqL K H a (ns.map V.int) ∧ (0 ≤ k ∧ k ≤ 900) ∧ ∀ (hs : List Str) (m : Nat), hs ≠ [] → hs.length ≤ 10 → 1 ≤ m → m ≤ 8 → (∀ h ∈ hs, HalfS m h) → RetU (hs.map V.str) H Q
theorem ok__law_halves {ts : List Addr} (D : Df K mg "_law_halves" st__law_halves ["_law_script", "_law_at"]) (m_tuple : mg "tuple" = none) (m_len : mg "len" = none) (A__law_numbers : At P w K mg base "_law_numbers" st__law_numbers 1 ["_law_cell_here", "_law_many"] (sp__law_numbers K ts)) (A__law_cell : At P w K mg base "_law_cell" st__law_cell 1 ["_law_script", "_law_k"] (sp__law_cell K ts)) (A__law_any_half : At P w K mg base "_law_any_half" st__law_any_half 1 ["_law_x", "_law_places"] (sp__law_any_half K ts)) (A__law_tree_halves : At P w K mg base "_law_tree_halves" st__law_tree_halves 2 ["_law_xs", "_law_places"] (sp__law_tree_halves K ts)) : At P w K mg base "_law_halves" st__law_halves 3 ["_law_script", "_law_at"] (sp__law_halves K ts) := by
  obtain ⟨f, fd, F, b, g⟩ := D
  obtain ⟨f__law_numbers, fd__law_numbers, F__law_numbers, b__law_numbers, g__law_numbers, G__law_numbers⟩ := A__law_numbers
  obtain ⟨f__law_cell, fd__law_cell, F__law_cell, b__law_cell, g__law_cell, G__law_cell⟩ := A__law_cell
  obtain ⟨f__law_any_half, fd__law_any_half, F__law_any_half, b__law_any_half, g__law_any_half, G__law_any_half⟩ := A__law_any_half
  obtain ⟨f__law_tree_halves, fd__law_tree_halves, F__law_tree_halves, b__law_tree_halves, g__law_tree_halves, G__law_tree_halves⟩ := A__law_tree_halves
  refine ⟨f, fd, F, b, g, F.ok sc__law_halves (fun vs H Q E h => ?_) (fun cdv A outer s H vs Q E hr h => ?_)⟩
  · obtain ⟨a, ns, k, rfl, _⟩ := h
    rfl
  · obtain ⟨a, ns, k, rfl, hS, hk, q⟩ := h
    refine ⟨_, (pss_cons (ps_set (i := 2) sc__law_halves.nd rfl (.inl rfl) (pe_call G__law_numbers (hr.mono (by decide)) (by rfl) g__law_numbers F__law_numbers.kp b__law_numbers .nil pass0 (pa_cons (pe_call G__law_cell (hr.mono (by decide)) (by rfl) g__law_cell F__law_cell.kp b__law_cell .nil pass0 (pa_cons (pv 0) (pa_cons (pv 1) pa_nil))) (pa_cons pe_int pa_nil))))
      (pss_cons (ps_set (i := 3) sc__law_halves.nd rfl (.inl rfl) (pe_call G__law_numbers (hr.mono (by decide)) (by rfl) g__law_numbers F__law_numbers.kp b__law_numbers .nil pass0 (pa_cons (pe_call G__law_cell (hr.mono (by decide)) (by rfl) g__law_cell F__law_cell.kp b__law_cell .nil pass0 (pa_cons (pv 0) (pa_cons (pe_op op_add (pv 1) pe_int) pa_nil))) (pa_cons pe_int pa_nil))))
      (pss_cons (ps_set (i := 4) sc__law_halves.nd rfl (.inl rfl) (pe_call G__law_numbers (hr.mono (by decide)) (by rfl) g__law_numbers F__law_numbers.kp b__law_numbers .nil pass0 (pa_cons (pe_call G__law_cell (hr.mono (by decide)) (by rfl) g__law_cell F__law_cell.kp b__law_cell .nil pass0 (pa_cons (pv 0) (pa_cons (pe_op op_add (pv 1) pe_int) pa_nil))) (pa_cons pe_int pa_nil))))
      (pss_cons (ps_set (i := 5) sc__law_halves.nd rfl (.inr rfl) (pe_op op_add pe_int (pe_op op_mod (pe_ix ix_list (pv 2) pe_int (fun _ _ => rfl)) pe_int)))
      (pss_cons (ps_set (i := 6) sc__law_halves.nd rfl (.inl rfl) (pe_op op_add pe_int (pe_op op_mod (pe_ix ix_list (pv 2) pe_int (fun _ _ => rfl)) pe_int)))
      (pss_cons (ps_if (pt_cmpR op_eq (pe_op op_mod (pe_ix ix_list (pv 2) pe_int (fun _ _ => rfl)) pe_int) pe_int (nomark _))
      (pss_one (ps_ret (pe_callTy call_tuple_of (by rfl) m_tuple (by decide +kernel) (pa_cons (pe_lc (own := [("_law_y", 8)]) (g := gName 8) (by rfl) sc__law_halves.nd (pi_list (pe_slice sl_list (pv 4) po_none (po_some (pv 6)))) (blkOk_by (N := ["_law_script", "_law_at", "_law_head", "_law_xs", "_law_ys", "_law_places", "_law_many", "_law_knots", "_law_y"]) (sc := defScope st__law_halves) (by decide +kernel)) (fun _ _ _ _ _ => (pg_name (i := 8) sc__law_halves.nd rfl (.inl rfl))) (fun _ _ _ _ _ => pts_nil) (fun _ _ _ _ _ => (pe_call G__law_any_half (hr.mono (by decide)) (by rfl) g__law_any_half F__law_any_half.kp b__law_any_half .nil pass0 (pa_cons (pe_op op_fdiv (pv 8) pe_int) (pa_cons (pv 5) pa_nil))))) pa_nil))))
      pss_nil)
      (pss_cons (ps_set (i := 7) sc__law_halves.nd rfl (.inr rfl) (pe_call G__law_tree_halves (hr.mono (by decide)) (by rfl) g__law_tree_halves F__law_tree_halves.kp b__law_tree_halves .nil pass0 (pa_cons (pv 3) (pa_cons (pv 5) pa_nil))))
      (pss_one (ps_ret (pe_callTy call_tuple_of (by rfl) m_tuple (by decide +kernel) (pa_cons (pe_lc (own := [("_law_y", 8)]) (g := gName 8) (by rfl) sc__law_halves.nd (pi_list (pe_slice sl_list (pv 4) po_none (po_some (pv 6)))) (blkOk_by (N := ["_law_script", "_law_at", "_law_head", "_law_xs", "_law_ys", "_law_places", "_law_many", "_law_knots", "_law_y"]) (sc := defScope st__law_halves) (by decide +kernel)) (fun _ _ _ _ _ => (pg_name (i := 8) sc__law_halves.nd rfl (.inl rfl))) (fun _ _ _ _ _ => pts_nil) (fun _ _ _ _ _ => (pe_ix (show IxR _ (rIxL K) from ix_list) (pv 7) (pe_op op_mod (pv 8) (pe_callB (show CallR _ (.builtin "len") (Evl.rLenS K) from call_len_seq) (by rfl) m_len (by decide +kernel) (pa_cons (pv 7) pa_nil))) (fun _ _ => rfl)))) pa_nil))))))))))), ?_⟩
    refine ⟨_, rfl, _, rfl, a, ns, k, rfl, hS, by omega, fun c1 G1 f1 => ⟨c1, 4, rfl, by decide, fun us hul hup p1 H1 hp1 f1' h1 => ?_⟩⟩
    have e1 : Ex H H1 := f1.trans f1'
    refine ⟨_, rfl, _, rfl, _, _, rfl, rfl, a, ns, k + 1, rfl, ex_l e1 hS, by omega, fun c2 G2 f2 => ⟨c2, 12, rfl, by decide, fun xs hxl hxp p2 H2 hp2 f2' h2 => ?_⟩⟩
    have e2 : Ex H1 H2 := f2.trans f2'
    refine ⟨_, rfl, _, rfl, _, _, rfl, rfl, a, ns, k + 2, rfl, ex_l (e1.trans e2) hS, by omega, fun c3 G3 f3 => ⟨c3, 12, rfl, by decide, fun ys hyl hyp p3 H3 hp3 f3' h3 => ?_⟩⟩
    have e3 : Ex H2 H3 := f3.trans f3'
    have e03 : Ex H H3 := (e1.trans e2).trans e3
    have hul' : us.length = 4 := by omega
    have hxl' : xs.length = 12 := by omega
    have hyl' : ys.length = 12 := by omega
    have hix : ∀ (j : Nat), j < 4 → ∃ v : Int, 0 ≤ v ∧ atI (us.map V.int) (j : Int) = some (.int v) := fun j hj => ⟨us[j], hup _ (List.getElem_mem _), atI_nat (by rw [List.getElem?_map, List.getElem?_eq_getElem (by omega)]; rfl)⟩
    obtain ⟨v0, w0, a0⟩ := hix 0 (by decide)
    obtain ⟨v1, w1, a1⟩ := hix 1 (by decide)
    obtain ⟨v2, w2, a2⟩ := hix 2 (by decide)
    replace a0 : atI (us.map V.int) 0 = some (.int v0) := a0
    replace a1 : atI (us.map V.int) 1 = some (.int v1) := a1
    replace a2 : atI (us.map V.int) 2 = some (.int v2) := a2
    have h13 : H3 p1 = some (.lst (us.map V.int)) := e3 _ _ (e2 _ _ h1)
    have h23 : H3 p2 = some (.lst (xs.map V.int)) := e3 _ _ h2
    obtain ⟨m, hm⟩ : ∃ m : Nat, (m : Int) = 1 + v0 % 8 := ⟨(1 + v0 % 8).toNat, by omega⟩
    obtain ⟨mk, hmk⟩ : ∃ mk : Nat, (mk : Int) = 1 + v1 % 10 := ⟨(1 + v1 % 10).toNat, by omega⟩
    refine q_asg (v := .int m) (ev_is (ev_op ev_c (ev_op (ev_op (ev_var rfl) ev_c (rv_ixL (sq_of h13) a0)) ev_c (rv_I (by show (0 : Int) < 8; decide))) rv_I0) (by rw [hm])) fun H4 e4 => ?_
    refine q_asg (v := .int mk) (ev_is (ev_op ev_c (ev_op (ev_op (ev_var rfl) ev_c (rv_ixL (sq_of (e4 _ _ h13)) a1)) ev_c (rv_I (by show (0 : Int) < 10; decide))) rv_I0) (by rw [hmk])) fun H5 e5 => ?_
    have e05 : Ex H H5 := e03.trans (e4.trans e5)
    have h35 : H5 p3 = some (.lst (ys.map V.int)) := e5 _ _ (e4 _ _ h3)
    have h15 : H5 p1 = some (.lst (us.map V.int)) := e5 _ _ (e4 _ _ h13)
    have h25 : H5 p2 = some (.lst (xs.map V.int)) := e5 _ _ (e4 _ _ h23)
    have hcl : (cutV (ys.map V.int) none (some (mk : Int))).length = mk := by rw [cut_take, List.length_take, List.length_map]; omega
    have hcg : ∀ (i : Nat) (x : V), (cutV (ys.map V.int) none (some (mk : Int)))[i]? = some x → x = .int (ys.getD i 0) := fun i x hx => by
      rw [cut_take, List.getElem?_take] at hx
      split at hx
      · rw [List.getElem?_map] at hx
        obtain ⟨y, hy, rfl⟩ := Option.map_eq_some_iff.mp hx
        rw [List.getD_eq_getElem?_getD, hy]
        rfl
      · cases hx
    refine q_when (et_test (ev_op (ev_op (ev_op (ev_var rfl) ev_c (rv_ixL (sq_of h15) a2)) ev_c (rv_I (by show (0 : Int) < 3; decide))) ev_c (rv_eq rfl))) (fun hb H6 e6 => ?_) (fun hb H6 e6 => ?_)
    · refine s_retU (eu_tupOf (el_lcNL (fun _ => true) (fun i => .str (anyH (ys.getD i 0 / 3) m)) (el_sl (ev_var rfl) eo_none (eo_some (ev_var rfl)) (sq_of (e6 _ _ h35))) (by rw [hcl]; omega) (fun x => rfl) (fun i x G1 g1 hx => et_yes) (fun i x G1 g1 hx _ => ?_))) fun p7 H7 hp7 e7 h7 => ?_
      · rw [hcg i x hx]
        exact ev_call (ea_cons (ev_op (ev_var rfl) ev_c (rv_I ⟨by decide, by decide⟩)) (ea_cons (ev_var rfl) ea_nil)) fun G2 g2 Q2 q2 E2 => ⟨_, m, rfl, by omega, q2⟩
      · refine q ((List.range mk).map fun i => anyH (ys.getD i 0 / 3) m) m (fun z => ?_) (by rw [List.length_map, List.length_range]; omega) (by omega) (by omega) (fun h hh => ?_) p7 H7 (fresh_back (e05.trans e6) hp7) ((e05.trans e6).trans e7) (by rw [h7, given_true, hcl, List.map_map]; rfl)
        · have := congrArg List.length z
          rw [List.length_map, List.length_range, List.length_nil] at this
          omega
        · obtain ⟨i, _, rfl⟩ := List.mem_map.mp hh
          exact any_half _ _
    · refine c_call (ea_cons (ev_var rfl) (ea_cons (ev_var rfl) ea_nil)) fun G6 g6 => ⟨p2, xs, m, rfl, sq_of (g6 _ _ (e6 _ _ h25)), ⟨hxl', hxp, by omega, by omega⟩, fun ks k0 kl kh p7 H7 hp7 e7 h7 => ?_⟩
      have e67 : Ex H5 H7 := e6.trans (g6.trans e7)
      have hkl : 0 < ks.length := List.length_pos_iff.mpr k0
      have hjl : ∀ i, (ys.getD i 0 % (ks.length : Int)).toNat < ks.length := fun i => by
        have := Int.emod_nonneg (ys.getD i 0) (show (ks.length : Int) ≠ 0 by omega)
        have := Int.emod_lt_of_pos (ys.getD i 0) (show (0 : Int) < ks.length by omega)
        omega
      refine s_retU (eu_tupOf (el_lcNL (fun _ => true) (fun i => .str (ks.getD (ys.getD i 0 % (ks.length : Int)).toNat Str.empty)) (el_sl (ev_var rfl) eo_none (eo_some (ev_var rfl)) (sq_of (e67 _ _ h35))) (by rw [hcl]; omega) (fun x => rfl) (fun i x G1 g1 hx => et_yes) (fun i x G1 g1 hx _ => ?_))) fun p8 H8 hp8 e8 h8 => ?_
      · rw [hcg i x hx]
        refine ev_op (ev_var rfl) (ev_op (ev_var rfl) (ev_len (ev_var rfl) (sq_of (g1 _ _ h7))) (rv_I (by show (0 : Int) < ((ks.map V.str).length : Int); rw [List.length_map]; omega))) (rv_ixL (sq_of (g1 _ _ h7)) ?_)
        rw [List.length_map]
        have := atI_nat (xs := ks.map V.str) (j := (ys.getD i 0 % (ks.length : Int)).toNat) (v := .str (ks.getD (ys.getD i 0 % (ks.length : Int)).toNat Str.empty)) (by rw [List.getElem?_map, get_getD (hjl i)]; rfl)
        rwa [Int.toNat_of_nonneg (Int.emod_nonneg _ (by omega))] at this
      · refine q ((List.range mk).map fun i => ks.getD (ys.getD i 0 % (ks.length : Int)).toNat Str.empty) m (fun z => ?_) (by rw [List.length_map, List.length_range]; omega) (by omega) (by omega) (fun h hh => ?_) p8 H8 (fresh_back (e05.trans e67) hp8) ((e05.trans e67).trans e8) (by rw [h8, given_true, hcl, List.map_map]; rfl)
        · have := congrArg List.length z
          rw [List.length_map, List.length_range, List.length_nil] at this
          omega
        · obtain ⟨i, _, rfl⟩ := List.mem_map.mp hh
          exact kh _ (List.mem_of_getElem? (get_getD (hjl i)))
end
end Hid

namespace Hid
open PySem PySem.Spec PyProof.Rows L2 Evl
/-! half-rows as lists and as texts -/
theorem half_S {n : Nat} {h : List Nat} (hh : HalfN n h) : HalfS n (tx h) := ⟨by rw [tx_sz]; exact hh.1, fun c hc => hh.2 c (by rw [tx_toList] at hc; exact hc)⟩
theorem sg_aT (h : List Nat) (i : Nat) : sgAt (tx h) i = aT h i := by
  unfold sgAt aT
  rw [tx_toList]
theorem pr_tx (h : List Nat) (i j : Nat) : prAt (tx h) i j = tx [aT h i, aT h j] := by
  unfold prAt
  rw [sg_aT, sg_aT]
theorem four_none {rs : List Str} {i j : Nat} (h : four rs i j = none) : ∃ p : Str, (p = "nn" ∨ p = "ny" ∨ p = "yn" ∨ p = "yy") ∧ ∀ x ∈ rs, prAt x i j ≠ p := by
  have no : ∀ {p : Str}, fstAt rs i j p = none → ∀ x ∈ rs, prAt x i j ≠ p := fun h x hx e => by
    have := List.find?_eq_none.mp h x hx
    exact this (decide_eq_true e)
  unfold four at h
  cases h1 : fstAt rs i j "nn" with
  | none => exact ⟨_, .inl rfl, no h1⟩
  | some a =>
    cases h2 : fstAt rs i j "ny" with
    | none => exact ⟨_, .inr (.inl rfl), no h2⟩
    | some b =>
      cases h3 : fstAt rs i j "yn" with
      | none => exact ⟨_, .inr (.inr (.inl rfl)), no h3⟩
      | some c =>
        cases h4 : fstAt rs i j "yy" with
        | none => exact ⟨_, .inr (.inr (.inr rfl)), no h4⟩
        | some d => rw [h1, h2, h3, h4] at h; cases h
theorem hs_of {S : List (List Nat)} {n : Nat} (h0 : S ≠ []) (hh : ∀ h ∈ S, HalfN n h) (hc : IsCross (four (srt (S.map tx))) n none) : HS S n := by
  have lt : ∀ i j, i < j → j < n → ∃ u v, NY u ∧ NY v ∧ ¬ Sh S i j u v := fun i j hij hj => by
    obtain ⟨p, hp, hn⟩ := four_none (hc i j hij hj)
    have g : ∀ {u v : Nat}, p = tx [u, v] → ¬ Sh S i j u v := fun {u v} e ⟨h, hm, e1, e2⟩ => hn (tx h) (mem_srt.mpr (List.mem_map.mpr ⟨h, hm, rfl⟩)) (by rw [pr_tx, e1, e2, e])
    rcases hp with e | e | e | e
    · exact ⟨110, 110, .inl rfl, .inl rfl, g e⟩
    · exact ⟨110, 121, .inl rfl, .inr rfl, g e⟩
    · exact ⟨121, 110, .inr rfl, .inl rfl, g e⟩
    · exact ⟨121, 121, .inr rfl, .inr rfl, g e⟩
  refine ⟨h0, hh, fun i j hi hj hij => ?_⟩
  rcases Nat.lt_or_ge i j with c | c
  · exact lt i j c hj
  · obtain ⟨u, v, a, b, e⟩ := lt j i (by omega) hi
    exact ⟨v, u, b, a, fun z => e z.symm⟩
def Tk (H H' : Hp) : Prop := ∀ b us, H b = some (.tup us) → H' b = some (.tup us)
theorem Tk.ex {H H' : Hp} (e : Ex H H') : Tk H H' := fun b us h => e _ _ h
theorem Tk.trans {H H' H2 : Hp} (a : Tk H H') (b : Tk H' H2) : Tk H H2 := fun x us h => b _ _ (a _ _ h)
theorem Tk.lst {H : Hp} {D : Addr} {xs : List V} {o : HO} (hD : H D = some (.lst xs)) : Tk H (upd H D o) := fun b us h => by
  rw [upd_ne fun e => by rw [e, hD] at h; cases h]
  exact h
theorem TiA.tk {H H' : Hp} {v : V} {p : Tp} (h : TiA H v p) (e : Tk H H') : TiA H' v p := let ⟨t, b, h0, h1, h2⟩ := h; ⟨t, b, h0, e _ _ h1, e _ _ h2⟩
theorem Tis.tk {H H' : Hp} {vs : List V} {ps : List Tp} (h : Tis H vs ps) (e : Tk H H') : Tis H' vs ps := paired_mono (fun _ _ q => q.tk e) h
def TrA (H : Hp) (v : V) (Kl : List (List Nat)) (T : List Tp) : Prop := ∃ t bk bt us, v = .ref t ∧ H t = some (.tup [.ref bk, .ref bt]) ∧ H bk = some (.tup (Kl.map fun k => V.str (tx k))) ∧ H bt = some (.tup us) ∧ Tis H us T
theorem TrA.tk {H H' : Hp} {v : V} {Kl : List (List Nat)} {T : List Tp} (h : TrA H v Kl T) (e : Tk H H') : TrA H' v Kl T := let ⟨t, bk, bt, us, h0, h1, h2, h3, h4⟩ := h; ⟨t, bk, bt, us, h0, e _ _ h1, e _ _ h2, e _ _ h3, Tis.tk h4 e⟩
theorem flk_len {α β : Type} (f : α → List β) (k : Nat) : ∀ l : List α, (∀ x ∈ l, (f x).length ≤ k) → (l.flatMap f).length ≤ l.length * k
  | [], _ => by simp
  | a :: l, h => by
    rw [List.flatMap_cons, List.length_append, List.length_cons, Nat.add_mul]
    have h1 := h a List.mem_cons_self
    have h2 := flk_len f k l fun x hx => h x (List.mem_cons_of_mem _ hx)
    omega
theorem take_fm {α β : Type} {f : α → List β} {l : List α} {j : Nat} {p : α} (hp : l[j]? = some p) : (l.take (j + 1)).flatMap f = (l.take j).flatMap f ++ f p := by
  rw [List.take_add_one, hp, List.flatMap_append]
  simp
theorem take_fl {α : Type} {f : α → Bool} {l : List α} {j : Nat} {p : α} (hp : l[j]? = some p) : (l.take (j + 1)).filter f = (l.take j).filter f ++ if f p = true then [p] else [] := by
  rw [List.take_add_one, hp, List.filter_append]
  cases h : f p <;> simp [List.filter_cons, h]
theorem any_snoc {α : Type} {f : α → Bool} {l : List α} {j : Nat} {p : α} (hp : l[j]? = some p) : (l.take (j + 1)).any f = ((l.take j).any f || f p) := by
  rw [List.take_add_one, hp, List.any_append]
  simp
theorem knL_256 (S : List (List Nat)) {k : Nat} (h : k ≤ 8) : (knL S k).length ≤ 256 := by
  have h1 := knL_len S k
  have h2 : 2 ^ k ≤ 2 ^ 8 := Nat.pow_le_pow_right (by decide) h
  omega
theorem tiA_len (S : List (List Nat)) (h0 : List Nat) (K : List (List Nat)) (i : Nat) : (tiA S h0 K i).length ≤ K.length := by
  unfold tiA
  rw [List.length_map]
  refine Nat.le_trans (List.length_filter_le _ _) ?_
  rw [List.length_drop]
  omega
theorem given_fil (hs : List (List Nat)) (p : List Nat → Bool) : given (hs.map fun h => V.str (tx h)).length (fun i => p (hs.getD i [])) (fun i => V.str (tx (hs.getD i []))) = (hs.filter p).map fun h => V.str (tx h) := by
  unfold given
  rw [List.length_map]
  conv => rhs; rw [← map_range_getD' hs []]
  rw [List.filter_map, List.map_map]
  rfl
theorem lc2_of {wi : TI} {g : TG} {tt : TT} {wi1 : TI} {g1 : TG} {tt1 : TT} {te : TE} {vs vs1 : List Nat} {σ : L2.St} {H : Hp} {Q : VK} (h : wi σ H fun J H1 => ∀ D, H1 D = none → ∃ W : Nat → Nat → Hp → Prop, (∃ m, W 0 m (upd H1 D (.lst []))) ∧ Cla J g tt (tIn wi1 g1 tt1 (fun σ H Nx => te σ H fun y H7 => ∃ acc, H7 D = some (.lst acc) ∧ acc.length < sizeLine ∧ Nx (upd H7 D (.lst (acc ++ [y])))) vs1) vs σ (fun H' => Q (.ref D) H') W) : tLc2 wi g tt wi1 g1 tt1 te vs vs1 σ H Q := h
theorem q_asgK {te : TE} {i : Nat} {tz : L2.TS} {D : Ends} {σ : L2.St} {H : Hp} {S : Addr → Hp → Prop} (h : ∀ Qk : VK, (∀ pl H9, Ex H H9 → S pl H9 → Qk (.ref pl) H9) → te σ H Qk) (k : ∀ pl H9, Ex H H9 → S pl H9 → tz D (σ.set i (some (.ref pl))) H9) : tSeq (tAsg te (gName i)) tz D σ H := h _ k
section
variable {K : PySem.W.Frag} {σ : L2.St} {H : Hp} {ta tb te tl : TE} {D : Ends} {tz : L2.TS} {P : V → Hp → Prop}
theorem el_isL {xs ys : List V} (h : EvL ta σ H xs) (e : xs = ys) : EvL ta σ H ys := e ▸ h
theorem ev_getS {S : List (List Nat)} {n k : Nat} {a : Addr} (ha : Ev ta σ H (.ref a)) (hS : SqT K H a (S.map fun h => V.str (tx h))) (hk : k < S.length) : Ev (tOp (rIxT K) ta (tC (.int (k : Nat)))) σ H (.str (tx (S.getD k []))) :=
  ev_op ha ev_c (rv_ixT hS (atI_nat (by rw [List.getElem?_map, List.getD_eq_getElem?_getD, List.getElem?_eq_getElem hk]; rfl)))
theorem eu_isU {xs ys : List V} (h : EvU te σ H xs) (e : xs = ys) : EvU te σ H ys := e ▸ h
theorem ev_at {h : List Nat} {n p : Nat} (ha : Ev ta σ H (.str (tx h))) (hb : Ev tb σ H (.int (p : Nat))) (hh : HalfN n h) (hp : p < n) (hn : n ≤ 1000) : Ev (tOp rIxS ta tb) σ H (.str (sg1 (aT h p))) :=
  ev_is (ev_op ha hb (rv_ixS (by rw [tx_len, hh.1]; omega) (at_sg (half_S hh) hp))) (by rw [sg_aT]; rfl)
end
theorem sgT_dec (c d : Nat) : decide (V.str (sg1 c) = V.str (sg1 d)) = decide (c = d) := by
  refine decide_eq_decide.mpr ⟨fun h => ?_, fun h => by rw [h]⟩
  have z := congrArg (fun s : Str => s.cps.toList) (V.str.inj h)
  simpa [sg1] using z
def RetU2 (xs : List V) (H : Hp) (Q : VK) : Prop := ∀ p H2, H p = none → Ex H H2 → H2 p = some (.tup xs) → Q (.ref p) H2
section
variable {P : Program} {w : World} {K : PySem.W.Frag} {mg : Str → Option Value} {base : Heap}
def sp_shows_told_pairs (K : PySem.W.Frag) (ts : List Addr) : Sp := fun vs H Q _ => ∃ (a : Addr) (S : List (List Nat)) (s : List Nat) (n : Nat), vs = [.ref a, .str (tx s)] ∧ SqT K H a (S.map fun h => V.str (tx h)) ∧ (S ≠ [] ∧ S.length < 1000 ∧ (1 ≤ n ∧ n ≤ 8) ∧ ∀ h ∈ S, HalfN n h) ∧ (1 ≤ s.length ∧ s.length ≤ n ∧ HalfN s.length s) ∧ TB ts H ∧ RetV (.bl (shB S s)) H Q
theorem ok_shows_told_pairs {cc pp : Addr} {ts : List Addr} (D : DfC K mg "shows_told_pairs" st_shows_told_pairs ["halves", "start"] cc) (B_shows_told_pairs : GxR.TabB base mg cc pp) (hpp : pp ∈ ts) (m_len : mg "len" = none) (m_range : mg "range" = none) (m_any : mg "any" = none) (A_pair_at : At P w K mg base "pair_at" st_pair_at 1 ["half", "first", "second"] (sp_pair_at K ts)) : At P w K mg base "shows_told_pairs" st_shows_told_pairs 3 ["halves", "start"] (sp_shows_told_pairs K ts) := by
  obtain ⟨f, fd, F, b, g, hcd⟩ := D
  obtain ⟨f_pair_at, fd_pair_at, F_pair_at, b_pair_at, g_pair_at, G_pair_at⟩ := A_pair_at
  refine ⟨f, fd, F, b, g, okC F hcd sc_shows_told_pairs (fun vs H Q E h => ?_) (fun A outer s H vs Q E hr h => ?_)⟩
  · obtain ⟨a, S, s, n, rfl, _⟩ := h
    rfl
  · obtain ⟨a, S, s, n, rfl, hS, ⟨hS0, hSl, ⟨hn1, hn8⟩, hSh⟩, ⟨hs1, hsn, hsh⟩, hT, q⟩ := h
    refine ⟨_, (pss_cons (ps_set (i := 2) sc_shows_told_pairs.nd rfl (.inr rfl) (pe_op op_sub (pe_callB call_len_str (by rfl) m_len (by decide +kernel) (pa_cons (pv 1) pa_nil)) pe_int))
      (pss_cons (ps_for PassesOwn.never rfl (pi_range1 (by rfl) m_range (pa_cons (pe_op op_add (pv 2) pe_int) pa_nil)) (pg_name (i := 3) sc_shows_told_pairs.nd rfl (.inr rfl))
      (pss_cons (ps_set (i := 4) sc_shows_told_pairs.nd rfl (.inr rfl) (pe_call G_pair_at (hr.mono (by decide)) (by rfl) g_pair_at F_pair_at.kp b_pair_at .nil pass0 (pa_cons (pv 1) (pa_cons (pv 3) (pa_cons (pv 2) pa_nil)))))
      (pss_one (ps_if (pt_not (pt_val (Hid.pe_anyG (own := [("half", 5)]) (gg := gName 5) hr rfl sc_shows_told_pairs.nd (by rfl) m_any B_shows_told_pairs rfl (pi_tup (pv 0)) (blkOk_by (N := ["halves", "start", "last", "place", "pair", "half"]) (sc := defScope st_shows_told_pairs) (by decide +kernel)) (fun _ _ _ _ _ _ _ _ => (pg_name (i := 5) sc_shows_told_pairs.nd rfl (.inl rfl))) (fun _ _ _ _ _ _ _ _ hr => (pe_cmpR op_eq (pe_call G_pair_at (hr.mono (by decide)) (by rfl) g_pair_at F_pair_at.kp b_pair_at .nil pass0 (pa_cons (pv 5) (pa_cons (pv 3) (pa_cons (pv 2) pa_nil)))) (pv 4) (nomark _))))))
      (pss_one (ps_ret pe_bl))
      pss_nil))))
      (pss_one (ps_ret pe_bl)))), ?_⟩
    refine q_asg (v := .int ((s.length - 1 : Nat) : Int)) (ev_is (ev_op (ev_lenS (ev_var rfl) (by rw [tx_len]; omega)) ev_c rv_I0) (congrArg V.int (by rw [tx_len]; omega))) fun H1 e1 => ?_
    refine q_forR1 (n := (s.length : Int)) (ea_cons (ev_is (ev_op (ev_var rfl) ev_c rv_I0) (congrArg V.int (by omega))) ea_nil) ⟨by omega, by omega⟩ (fun i σ' H' => ∃ y3 y4 : Option V, σ' = [some (.ref a), some (.str (tx s)), some (.int ((s.length - 1 : Nat) : Int)), y3, y4, none] ∧ Ex H H' ∧ ((List.range i).all fun p => S.any fun h => decide (aT h p = aT s p ∧ aT h (s.length - 1) = aT s (s.length - 1))) = true) (fun H2 e2 => ⟨_, _, rfl, e1.trans e2, rfl⟩) (fun i σ' H2 hi hP => ?_) (fun σ' H2 hP => ?_)
    · obtain ⟨y3, y4, rfl, e2, hal⟩ := hP
      have hil : i < s.length := by omega
      have hll : s.length - 1 < s.length := by omega
      refine q_asg (v := .str (prAt (tx s) i (s.length - 1))) (ev_call (ea_cons (ev_var rfl) (ea_cons (ev_var rfl) (ea_cons (ev_var rfl) ea_nil))) fun G g Q1 q1 E1 => ⟨tx s, i, s.length - 1, s.length, rfl, ⟨half_S hsh, hil, hll, by omega⟩, q1⟩) fun H3 e3 => ?_
      have e03 := e2.trans e3
      have hrg : ((List.range (i + 1)).all fun p => S.any fun h => decide (aT h p = aT s p ∧ aT h (s.length - 1) = aT s (s.length - 1))) = (S.any fun h => decide (aT h i = aT s i ∧ aT h (s.length - 1) = aT s (s.length - 1))) := by
        rw [List.range_succ, List.all_append, hal]
        simp
      have hev : ∀ G, Ex H3 G → ∀ Q1 : VK, (∀ H2, Ex G H2 → Q1 (.bl (S.any fun h => decide (aT h i = aT s i ∧ aT h (s.length - 1) = aT s (s.length - 1)))) H2) → True := fun _ _ _ _ => trivial
      refine s_when (b := !(S.any fun h => decide (aT h i = aT s i ∧ aT h (s.length - 1) = aT s (s.length - 1)))) (et_not (et_B (fun G g Q1 q1 => ?_))) (fun hb H4 e4 => ?_) (fun hb H4 e4 => ⟨_, _, rfl, e03.trans e4, by rw [hrg]; simpa using hb⟩)
      · have e0G := e03.trans g
        refine ⟨_, rfl, a, rfl, ⟨_, ex_t e0G hS⟩, hT.ex e0G _ hpp, gx_it (walk_tup (xs := S.map fun h => V.str (tx h))) (fun c H' => Ex G H' ∧ ((S.take c).any fun h => decide (aT h i = aT s i ∧ aT h (s.length - 1) = aT s (s.length - 1))) = false) ⟨Ex.refl _, rfl⟩ (fun c H' _ hP => ex_t (e0G.trans hP.1) hS) (fun c x H5 H5' hc hP hY => ?_) (fun H5 hP => ?_)⟩
        · obtain ⟨e5, hno⟩ := hP
          obtain ⟨rfl, hx⟩ := hY
          rw [List.getElem?_map] at hx
          obtain ⟨h, hh, rfl⟩ := Option.map_eq_some_iff.mp hx
          have hm := List.mem_of_getElem? hh
          have hev : Ev (tOp rEq (tCall (sp_pair_at K ts) [] E0 (tCons (tVar 5) (tCons (tVar 3) (tCons (tVar 2) tNil)))) (tVar 4)) [some (.ref a), some (.str (tx s)), some (.int ((s.length - 1 : Nat) : Int)), some (.int (i : Nat)), some (.str (prAt (tx s) i (s.length - 1))), some (.str (tx h))] H5' (.bl (decide (aT h i = aT s i ∧ aT h (s.length - 1) = aT s (s.length - 1)))) := ev_is (ev_op (ev_call (z := .str (prAt (tx h) i (s.length - 1))) (ea_cons (ev_var rfl) (ea_cons (ev_var rfl) (ea_cons (ev_var rfl) ea_nil))) fun G g Q1 q1 E1 => ⟨tx h, i, s.length - 1, n, rfl, ⟨half_S (hSh h hm), by omega, by omega, by omega⟩, q1⟩) (ev_var rfl) (rv_eq rfl)) (congrArg V.bl (decide_eq_decide.mpr ⟨fun z => by
            have z2 := V.str.inj z
            rw [pr_tx, pr_tx] at z2
            have z3 := tx_inj z2
            exact ⟨(List.cons.inj z3).1, (List.cons.inj (List.cons.inj z3).2).1⟩, fun z => by rw [pr_tx, pr_tx, z.1, z.2]⟩))
          refine ⟨rfl, hev H5' (Ex.refl _) _ fun H6 e6 => ⟨_, rfl, fun hb => ⟨e5.trans e6, ?_⟩, fun hb => ?_⟩⟩
          · rw [any_snoc hh, hno, hb]
            rfl
          · have hy : (S.any fun h => decide (aT h i = aT s i ∧ aT h (s.length - 1) = aT s (s.length - 1))) = true := List.any_eq_true.mpr ⟨h, hm, by simpa using hb⟩
            rw [hy] at q1
            exact q1 H6 (e5.trans e6)
        · obtain ⟨e5, hno⟩ := hP
          rw [List.length_map, List.take_of_length_le (Nat.le_refl _)] at hno
          rw [hno] at q1
          exact q1 H5 e5
      · have hf : shB S s = false := by
          unfold shB
          refine List.all_eq_false.mpr ⟨i, List.mem_range.mpr hil, ?_⟩
          simpa using hb
        rw [hf] at q
        exact s_ret ev_c fun H5 e5 => q H5 (e03.trans (e4.trans e5))
    · obtain ⟨y3, y4, rfl, e2, hal⟩ := hP
      rw [Int.toNat_natCast] at hal
      have hf : shB S s = true := hal
      rw [hf] at q
      exact s_ret ev_c fun H3 e3 => q H3 (e2.trans e3)
def sp_knots_for (K : PySem.W.Frag) (ts : List Addr) : Sp := fun vs H Q _ => ∃ (a : Addr) (S : List (List Nat)) (n : Nat), vs = [.ref a] ∧ SqT K H a (S.map fun h => V.str (tx h)) ∧ (S ≠ [] ∧ S.length < 1000 ∧ (1 ≤ n ∧ n ≤ 8) ∧ ∀ h ∈ S, HalfN n h) ∧ TB ts H ∧ RetL ((knL S n).map fun k => V.str (tx k)) H Q
theorem ok_knots_for {ts : List Addr} {tHS : Tok} (D : Df K mg "knots_for" st_knots_for ["halves"]) (m_range : mg "range" = none) (m_len : mg "len" = none) (c_HALF_SIGNS : mg "HALF_SIGNS" = some (.str "ny" tHS)) (A_shows_told_pairs : At P w K mg base "shows_told_pairs" st_shows_told_pairs 3 ["halves", "start"] (sp_shows_told_pairs K ts)) : At P w K mg base "knots_for" st_knots_for 4 ["halves"] (sp_knots_for K ts) := by
  obtain ⟨f, fd, F, b, g⟩ := D
  obtain ⟨f_shows_told_pairs, fd_shows_told_pairs, F_shows_told_pairs, b_shows_told_pairs, g_shows_told_pairs, G_shows_told_pairs⟩ := A_shows_told_pairs
  refine ⟨f, fd, F, b, g, F.ok sc_knots_for (fun vs H Q E h => ?_) (fun cdv A outer s H vs Q E hr h => ?_)⟩
  · obtain ⟨a, S, n, rfl, _⟩ := h
    rfl
  · obtain ⟨a, S, n, rfl, hS, ⟨hS0, hSl, ⟨hn1, hn8⟩, hSh⟩, hT, q⟩ := h
    refine ⟨_, (pss_cons (ps_set (i := 1) sc_knots_for.nd rfl (.inl rfl) (pe_lst (pa_cons pe_str pa_nil)))
      (pss_cons (ps_for PassesOwn.never rfl (pi_range1 (by rfl) m_range (pa_cons (pe_callB call_len_str (by rfl) m_len (by decide +kernel) (pa_cons (pe_ix ix_tup (pv 0) pe_int (fun _ _ => rfl)) pa_nil)) pa_nil)) (pg_name (i := 2) sc_knots_for.nd rfl (.inl rfl))
      (pss_cons (ps_setLc2 (i := 3) (own := [("start", 4), ("sign", 5)]) (vs1 := [5]) (g := gName 4) (g1 := gName 5) rfl sc_knots_for.nd rfl rfl (sw_true rfl rfl rfl (by decide +kernel)) (pi_list (pv 1)) (blkOk_by (N := ["halves", "starts", "place", "longer", "start", "sign"]) (sc := defScope st_knots_for) (by decide +kernel)) (by decide) (fun _ _ _ _ _ => (pg_name (i := 4) sc_knots_for.nd rfl (.inl rfl))) (fun _ _ _ _ _ => pts_nil) (fun _ _ _ _ _ => (pi_str (pe_glob (v := .str "ny") (by rfl) c_HALF_SIGNS ⟨_, rfl⟩))) (fun _ _ _ _ _ => (pg_name (i := 5) sc_knots_for.nd rfl (.inl rfl))) (fun _ _ _ _ _ => pts_nil) (fun _ _ _ _ _ => (pe_op op_add_str (pv 4) (pv 5))))
      (pss_one (ps_setLc (i := 1) (own := [("start", 4)]) (g := gName 4) rfl sc_knots_for.nd rfl rfl (sw_true rfl rfl rfl (by decide +kernel)) (pi_list (pv 3)) (blkOk_by (N := ["halves", "starts", "place", "longer", "start", "sign"]) (sc := defScope st_knots_for) (by decide +kernel)) (fun _ _ _ _ _ => (pg_name (i := 4) sc_knots_for.nd rfl (.inl rfl))) (fun _ _ _ _ _ => (pts_one (pt_val (pe_call G_shows_told_pairs (hr.mono (by decide)) (by rfl) g_shows_told_pairs F_shows_told_pairs.kp b_shows_told_pairs .nil pass0 (pa_cons (pv 0) (pa_cons (pv 4) pa_nil)))))) (fun _ _ _ _ _ => (pv 4))))))
      (pss_one (ps_ret (pv 1))))), ?_⟩
    have hpos : 0 < S.length := List.length_pos_iff.mpr hS0
    have h0m : S.getD 0 [] ∈ S := by rw [List.getD_eq_getElem?_getD, List.getElem?_eq_getElem hpos]; exact List.getElem_mem hpos
    refine q_asgL (xs := [V.str (tx [])]) (el_lst (ea_cons (ev_is ev_c rfl) ea_nil) (by show 1 ≤ 100000; decide)) fun l0 H1 nl0 e1 h1 => ?_
    refine q_forR1 (n := (n : Int)) (ea_cons (ev_is (ev_lenS (ev_getS (K := K) (n := n) (k := 0) (ev_var rfl) (ex_t e1 hS) hpos) (by rw [tx_len, (hSh _ h0m).1]; omega)) (congrArg V.int (by rw [tx_len, (hSh _ h0m).1]))) ea_nil) ⟨by omega, by omega⟩ (fun i σ' H' => ∃ (l : Addr) (y2 y3 : Option V), σ' = [some (.ref a), some (.ref l), y2, y3, none, none] ∧ H l = none ∧ Ex H H' ∧ H' l = some (.lst ((knL S i).map fun k => V.str (tx k)))) (fun H2 e2 => ⟨l0, _, _, rfl, nl0, e1.trans e2, e2 _ _ h1⟩) (fun i σ' H2 hi hP => ?_) (fun σ' H2 hP => ?_)
    · obtain ⟨l, y2, y3, rfl, nl, e2, h2⟩ := hP
      have hin : i < n := by omega
      have hkl := knL_256 S (k := i) (by omega)
      refine q_asgK (S := fun pl H9 => H pl = none ∧ H9 pl = some (.lst (((knL S i).flatMap fun s => [s ++ [110], s ++ [121]]).map fun k => V.str (tx k)))) (fun Qk kk => ?_) fun pl H3 e3 hS3 => ?_
      · refine lc2_of ?_
        refine ⟨_, rfl, l, rfl, ⟨_, sq_of h2⟩, fun Dl hD => cla_it (walk_list (xs := (knL S i).map fun k => V.str (tx k))) (fun j H' => Ex H2 H' ∧ H' Dl = some (.lst ((((knL S i).take j).flatMap fun s => [s ++ [110], s ++ [121]]).map fun k => V.str (tx k)))) ⟨Ex.new hD, upd_same⟩ (fun j H' _ hP => sq_of (hP.1 _ _ h2)) (fun j x H4 H4' hj hP hY => ?_) (fun H4 hP => ?_)⟩
        · obtain ⟨e4, h4⟩ := hP
          obtain ⟨rfl, hx⟩ := hY
          rw [List.getElem?_map] at hx
          obtain ⟨s, hs, rfl⟩ := Option.map_eq_some_iff.mp hx
          have hsh := ((knL_mem S i s).mp (List.mem_of_getElem? hs)).1
          have hjl : j < (knL S i).length := (List.getElem?_eq_some_iff.mp hs).1
          have hpre := flk_len (fun s : List Nat => [s ++ [110], s ++ [121]]) 2 ((knL S i).take j) fun _ _ => Nat.le_refl 2
          rw [List.length_take, Nat.min_eq_left (by omega)] at hpre
          refine ⟨rfl, tyes ?_⟩
          refine ⟨"ny", rfl, cla_it (walk_str (z := "ny")) (fun k H' => Ex H2 H' ∧ H' Dl = some (.lst ((((knL S i).take j).flatMap (fun s => [s ++ [110], s ++ [121]]) ++ [s ++ [110], s ++ [121]].take k).map fun k => V.str (tx k)))) ⟨e4, by rw [List.take_zero, List.append_nil]; exact h4⟩ (fun _ _ _ _ => trivial) (fun k y H5 H5' hk hP hY => ?_) (fun H5 hP => ?_)⟩
          · obtain ⟨e5, h5⟩ := hP
            obtain ⟨rfl, c, hc, rfl⟩ := hY
            have hk2 : k < 2 := hk
            have hkc : [s ++ [110], s ++ [121]][k]? = some (s ++ [c]) := by
              have : k = 0 ∨ k = 1 := by omega
              rcases this with rfl | rfl
              · have e : c = 110 := by
                  have h9 : ("ny" : Str).cps[0]? = some 110 := by decide
                  rw [h9] at hc; exact (Option.some.inj hc).symm
                rw [e]; rfl
              · have e : c = 121 := by
                  have h9 : ("ny" : Str).cps[1]? = some 121 := by decide
                  rw [h9] at hc; exact (Option.some.inj hc).symm
                rw [e]; rfl
            refine ⟨rfl, tyes ((ev_is (ev_op (ev_var rfl) (ev_var rfl) (rv_catS (by rw [tx_len, hsh.1]; omega) (by show 1 ≤ 1000; decide))) (congrArg V.str (tx_sn s c))) H5' (Ex.refl _) _ fun H6 e6 => ⟨_, e6 _ _ h5, sz_lt ?_, (e5.trans e6).mut hD, ?_⟩)⟩
            · rw [List.length_map, List.length_append, List.length_take]
              show _ + min k 2 < 100000
              omega
            · rw [upd_same, List.take_add_one, hkc, Option.toList_some, ← List.append_assoc, List.map_append (l₂ := [s ++ [c]])]
              rfl
          · obtain ⟨e5, h5⟩ := hP
            refine ⟨e5, ?_⟩
            rw [h5, take_fm hs]
            rfl
        · obtain ⟨e4, h4⟩ := hP
          rw [List.length_map, List.take_of_length_le (Nat.le_refl _)] at h4
          exact kk Dl H4 e4 ⟨fresh_back e2 hD, h4⟩
      · obtain ⟨npl, h3⟩ := hS3
        have e03 := e2.trans e3
        have hll : ((knL S i).flatMap fun s => [s ++ [110], s ++ [121]]).length ≤ 512 := by
          have := flk_len (fun s : List Nat => [s ++ [110], s ++ [121]]) 2 (knL S i) fun _ _ => Nat.le_refl 2
          omega
        have hmem : ∀ s ∈ (knL S i).flatMap (fun s => [s ++ [110], s ++ [121]]), HalfN (i + 1) s := fun s hs => by
          obtain ⟨r, hr, h⟩ := List.mem_flatMap.mp hs
          have hrh := ((knL_mem S i r).mp hr).1
          have g : ∀ c, NY c → HalfN (i + 1) (r ++ [c]) := fun c hc => ⟨by rw [List.length_append, hrh.1]; rfl, fun d hd => (List.mem_append.mp hd).elim (hrh.2 d) fun z => by rw [List.mem_singleton.mp z]; exact hc⟩
          rcases List.mem_cons.mp h with e | e
          · rw [e]; exact g _ (.inl rfl)
          · rw [List.mem_singleton.mp e]; exact g _ (.inr rfl)
        generalize hL : (knL S i).flatMap (fun s => [s ++ [110], s ++ [121]]) = L at h3 hll hmem
        refine s_asgL (xs := (L.filter (shB S)).map fun k => V.str (tx k)) (el_isL (el_lcL (xs := L.map fun k => V.str (tx k)) (fun j => shB S (L.getD j [])) (fun j => V.str (tx (L.getD j []))) (ev_var rfl) (sq_of h3) (by rw [List.length_map]; omega) (fun _ => rfl) (fun m x G g hx => ?_) (fun m x G g hx _ => ?_)) (given_fil L (shB S))) fun pf H4 npf e4 h4 => ⟨pf, _, _, rfl, fresh_back e03 npf, e03.trans e4, ?_⟩
        · rw [List.getElem?_map] at hx
          obtain ⟨s, hs, rfl⟩ := Option.map_eq_some_iff.mp hx
          have hsh := hmem s (List.mem_of_getElem? hs)
          rw [List.getD_eq_getElem?_getD, hs]
          exact et_B (ev_call (ea_cons (ev_var rfl) (ea_cons (ev_var rfl) ea_nil)) fun G2 g2 Q1 q1 E1 => ⟨a, S, s, n, rfl, ex_t (e03.trans (g.trans g2)) hS, ⟨hS0, hSl, ⟨hn1, hn8⟩, hSh⟩, ⟨by rw [hsh.1]; omega, by rw [hsh.1]; omega, by rw [hsh.1]; exact hsh⟩, hT.ex (e03.trans (g.trans g2)), q1⟩)
        · rw [List.getElem?_map] at hx
          obtain ⟨s, hs, rfl⟩ := Option.map_eq_some_iff.mp hx
          rw [List.getD_eq_getElem?_getD, hs]
          exact ev_var rfl
        · rw [h4, ← hL]
          rfl
    · obtain ⟨l, y2, y3, rfl, nl, e2, h2⟩ := hP
      rw [Int.toNat_natCast] at h2
      exact s_ret (ev_var rfl) fun H3 e3 => q l H3 nl (e2.trans e3) (e3 _ _ h2)
def sp_unlike_places (K : PySem.W.Frag) (ts : List Addr) : Sp := fun vs H Q _ => ∃ (a b : List Nat) (n : Nat), vs = [.str (tx a), .str (tx b)] ∧ HalfN n a ∧ HalfN n b ∧ n ≤ 8 ∧ RetU2 ((unl a b).map fun i : Nat => V.int (i : Int)) H Q
theorem ok_unlike_places {ts : List Addr} (D : Df K mg "unlike_places" st_unlike_places ["one", "other"]) (m_tuple : mg "tuple" = none) (m_range : mg "range" = none) (m_len : mg "len" = none) : At P w K mg base "unlike_places" st_unlike_places 1 ["one", "other"] (sp_unlike_places K ts) := by
  obtain ⟨f, fd, F, b, g⟩ := D
  refine ⟨f, fd, F, b, g, F.ok sc_unlike_places (fun vs H Q E h => ?_) (fun cdv A outer s H vs Q E hr h => ?_)⟩
  · obtain ⟨a, b, n, rfl, _⟩ := h
    rfl
  · obtain ⟨a, b, n, rfl, ha, hb, hn8, q⟩ := h
    refine ⟨_, (pss_one (ps_ret (pe_callTy call_tuple_of (by rfl) m_tuple (by decide +kernel) (pa_cons (pe_lc (own := [("place", 2)]) (g := gName 2) (by rfl) sc_unlike_places.nd (pi_range1 (by rfl) m_range (pa_cons (pe_callB call_len_str (by rfl) m_len (by decide +kernel) (pa_cons (pv 0) pa_nil)) pa_nil)) (blkOk_by (N := ["one", "other", "place"]) (sc := defScope st_unlike_places) (by decide +kernel)) (fun _ _ _ _ _ => (pg_name (i := 2) sc_unlike_places.nd rfl (.inl rfl))) (fun _ _ _ _ _ => (pts_one (pt_cmpR op_ne (pe_ix ix_str (pv 0) (pv 2) (fun _ _ => rfl)) (pe_ix ix_str (pv 1) (pv 2) (fun _ _ => rfl)) (nomark _)))) (fun _ _ _ _ _ => (pv 2))) pa_nil)))), ?_⟩
    refine s_retU (eu_isU (eu_tupOf (K := K) (el_lcR1 (n := (n : Int)) (fun k => decide (aT a k ≠ aT b k)) (fun k => V.int (k : Nat)) (ea_cons (ev_is (ev_lenS (ev_var rfl) (by rw [tx_len, ha.1]; omega)) (congrArg V.int (by rw [tx_len, ha.1]))) ea_nil) ⟨by omega, by omega⟩ (fun _ => rfl) (fun k G g hk => ?_) (fun k G g hk _ => ev_var rfl))) ?_) fun p H1 np e1 h1 => q p H1 np e1 h1
    · refine et_is (et_test (ev_op (ev_at (n := n) (ev_var rfl) (ev_var rfl) ha (by omega) (by omega)) (ev_at (n := n) (ev_var rfl) (ev_var rfl) hb (by omega) (by omega)) (rv_ne rfl))) ?_
      rw [sgT_dec]
      by_cases c : aT a k = aT b k <;> simp [c]
    · unfold given unl
      rw [Int.toNat_natCast, ha.1]
def sp_parted_at (K : PySem.W.Frag) (ts : List Addr) : Sp := fun vs H Q _ => ∃ (a : Addr) (S : List (List Nat)) (n p : Nat), vs = [.ref a, .int (p : Nat)] ∧ SqT K H a (S.map fun h => V.str (tx h)) ∧ (S ≠ [] ∧ S.length < 1000 ∧ (1 ≤ n ∧ n ≤ 8) ∧ ∀ h ∈ S, HalfN n h) ∧ p < n ∧ RetV (.str (tx (paT S (S.getD 0 []) p))) H Q
theorem ok_parted_at {ts : List Addr} (D : Df K mg "parted_at" st_parted_at ["halves", "place"]) : At P w K mg base "parted_at" st_parted_at 1 ["halves", "place"] (sp_parted_at K ts) := by
  obtain ⟨f, fd, F, b, g⟩ := D
  refine ⟨f, fd, F, b, g, F.ok sc_parted_at (fun vs H Q E h => ?_) (fun cdv A outer s H vs Q E hr h => ?_)⟩
  · obtain ⟨a, S, n, p, rfl, _⟩ := h
    rfl
  · obtain ⟨a, S, n, p, rfl, hS, ⟨hS0, hSl, ⟨hn1, hn8⟩, hSh⟩, hp, q⟩ := h
    refine ⟨_, (pss_cons (ps_set (i := 2) sc_parted_at.nd rfl (.inr rfl) (pe_ix ix_str (pe_ix ix_tup (pv 0) pe_int (fun _ _ => rfl)) (pv 1) (fun _ _ => rfl)))
      (pss_one (ps_ret (pe_join pe_str (pe_lc (own := [("half", 3)]) (g := gName 3) (by rfl) sc_parted_at.nd (pi_tup (pv 0)) (blkOk_by (N := ["halves", "place", "first", "half"]) (sc := defScope st_parted_at) (by decide +kernel)) (fun _ _ _ _ _ => (pg_name (i := 3) sc_parted_at.nd rfl (.inl rfl))) (fun _ _ _ _ _ => pts_nil) (fun _ _ _ _ _ => (pe_ifExp (pt_cmpR op_eq (pe_ix ix_str (pv 3) (pv 1) (fun _ _ => rfl)) (pv 2) (nomark _)) pe_str pe_str))))))), ?_⟩
    have hpos : 0 < S.length := List.length_pos_iff.mpr hS0
    have h0m : S.getD 0 [] ∈ S := by rw [List.getD_eq_getElem?_getD, List.getElem?_eq_getElem hpos]; exact List.getElem_mem hpos
    refine q_asg (v := .str (sg1 (aT (S.getD 0 []) p))) (ev_at (n := n) (ev_getS (K := K) (n := n) (k := 0) (ev_var rfl) hS hpos) (ev_var rfl) (hSh _ h0m) hp (by omega)) fun H1 e1 => ?_
    refine ⟨⟨_, rfl⟩, (el_lcT (xs := S.map fun h => V.str (tx h)) (fun _ => true) (fun m => V.str (sg1 (if aT (S.getD m []) p = aT (S.getD 0 []) p then 121 else 110))) (ev_var rfl) (ex_t e1 hS) (by rw [List.length_map]; omega) (fun _ => rfl) (fun m x G g hx => et_yes) (fun m x G g hx _ => ?_)) _ (Ex.refl _) _ fun pl H2 npl e2 h2 => ?_⟩
    · rw [List.getElem?_map] at hx
      obtain ⟨h, hh, rfl⟩ := Option.map_eq_some_iff.mp hx
      have eg : S.getD m [] = h := by rw [List.getD_eq_getElem?_getD, hh]; rfl
      rw [eg]
      refine ev_if (b := decide (aT h p = aT (S.getD 0 []) p)) (et_is (et_test (ev_op (ev_at (n := n) (ev_var rfl) (ev_var rfl) (hSh h (List.mem_of_getElem? hh)) hp (by omega)) (ev_var rfl) (rv_eq rfl))) (sgT_dec _ _)) (fun hb => ?_) (fun hb => ?_)
      · rw [if_pos (of_decide_eq_true hb)]; exact ev_c
      · rw [if_neg (of_decide_eq_false hb)]; exact ev_c
    · refine r_join (l := paT S (S.getD 0 []) p) (sq_of ?_) (by unfold paT; rw [List.length_map]; omega) (q H2 (e1.trans e2))
      rw [h2, given_true, List.length_map]
      unfold paT vs1
      rw [List.map_map]
      refine congrArg (fun z => some (HO.lst z)) (List.ext_getElem (by rw [List.length_map, List.length_map, List.length_range]) fun i h1 h2 => ?_)
      rw [List.length_map] at h2
      rw [List.getElem_map, List.getElem_map, List.getElem_range, List.getD_eq_getElem?_getD (i := i), List.getElem?_eq_getElem h2]
      rfl
def sp_change_together (K : PySem.W.Frag) (ts : List Addr) : Sp := fun vs H Q _ => ∃ (a b : Addr) (S : List (List Nat)) (n : Nat) (ps : List Nat), vs = [.ref a, .ref b] ∧ SqT K H a (S.map fun h => V.str (tx h)) ∧ (S ≠ [] ∧ S.length < 1000 ∧ (1 ≤ n ∧ n ≤ 8) ∧ ∀ h ∈ S, HalfN n h) ∧ SqT K H b (ps.map fun i : Nat => V.int (i : Int)) ∧ (ps.length ≤ 8 ∧ ∀ p ∈ ps, p < n) ∧ RetV (.bl (tgB S (S.getD 0 []) ps)) H Q
theorem ok_change_together {ts : List Addr} (D : Df K mg "change_together" st_change_together ["halves", "places"]) (m_len : mg "len" = none) (A_parted_at : At P w K mg base "parted_at" st_parted_at 1 ["halves", "place"] (sp_parted_at K ts)) : At P w K mg base "change_together" st_change_together 2 ["halves", "places"] (sp_change_together K ts) := by
  obtain ⟨f, fd, F, b, g⟩ := D
  obtain ⟨f_parted_at, fd_parted_at, F_parted_at, b_parted_at, g_parted_at, G_parted_at⟩ := A_parted_at
  refine ⟨f, fd, F, b, g, F.ok sc_change_together (fun vs H Q E h => ?_) (fun cdv A outer s H vs Q E hr h => ?_)⟩
  · obtain ⟨a, b, S, n, ps, rfl, _⟩ := h
    rfl
  · obtain ⟨a, b, S, n, ps, rfl, hS, hok, hb, ⟨hpl, hpn⟩, q⟩ := h
    refine ⟨_, (pss_one (ps_ret (pe_cmpR op_eq (pe_callB Hid.cr_lenX (by rfl) m_len (by decide +kernel) (pa_cons (Hid.pe_scT (own := [("place", 2)]) (g := gName 2) rfl sc_change_together.nd (pi_tup (pv 1)) (blkOk_by (N := ["halves", "places", "place"]) (sc := defScope st_change_together) (by decide +kernel)) (fun _ _ _ _ _ => (pg_name (i := 2) sc_change_together.nd rfl (.inl rfl))) (fun _ _ _ _ _ => pts_nil) (fun _ _ _ _ _ => (pe_call G_parted_at (hr.mono (by decide)) (by rfl) g_parted_at F_parted_at.kp b_parted_at .nil pass0 (pa_cons (pv 0) (pa_cons (pv 2) pa_nil))))) pa_nil)) pe_int (nomark _)))), ?_⟩
    refine s_ret (v := .bl (tgB S (S.getD 0 []) ps)) (fun G0 g0 Q1 q1 => ?_) fun H5 e5 => q H5 e5
    refine ⟨_, rfl, b, rfl, ⟨_, ex_t g0 hb⟩, fun D hD => cla_it (walk_tup (xs := ps.map fun i : Nat => V.int (i : Int))) (fun i H' => Ex G0 H' ∧ H' D = some (SetX w D (putAll [] ((ps.take i).map fun p => tx (paT S (S.getD 0 []) p))))) ⟨Ex.new hD, upd_same⟩ (fun i H' _ hP => ex_t (g0.trans hP.1) hb) (fun i x H6 H6' hi hP hY => ?_) (fun H6 hP => ?_)⟩
    · obtain ⟨e6, h6⟩ := hP
      obtain ⟨rfl, hx⟩ := hY
      rw [List.getElem?_map] at hx
      obtain ⟨p, hp, rfl⟩ := Option.map_eq_some_iff.mp hx
      refine ⟨rfl, tyes (c_call (ea_cons (ev_var rfl) (ea_cons (ev_var rfl) ea_nil)) fun H7 e7 => ⟨a, S, n, p, rfl, ex_t (g0.trans (e6.trans e7)) hS, hok, hpn p (List.mem_of_getElem? hp), fun H8 e8 => ⟨tx (paT S (S.getD 0 []) p), _, rfl, e8 _ _ (e7 _ _ h6), ?_, (e6.trans (e7.trans e8)).mut hD, ?_⟩⟩)⟩
      · have := putAll_len ((ps.take i).map fun p => tx (paT S (S.getD 0 []) p)) []
        rw [List.length_map, List.length_take, List.length_nil] at this
        show _ + 1 < 4096
        omega
      · rw [upd_same, List.take_add_one, hp, List.map_append]
        show some (SetX w D _) = some (SetX w D (putAll [] (_ ++ [tx (paT S (S.getD 0 []) p)])))
        rw [putAll_snoc]
    · obtain ⟨e6, h6⟩ := hP
      rw [List.length_map, List.take_of_length_le (Nat.le_refl _)] at h6
      refine ⟨D, _, rfl, h6, rfl, ?_⟩
      have e : decide (V.int ((putAll [] (ps.map fun p => tx (paT S (S.getD 0 []) p))).length : Int) = V.int 1) = tgB S (S.getD 0 []) ps := decide_eq_decide.mpr ⟨fun z => by injection z with z; omega, fun z => by rw [z]; rfl⟩
      rw [e]
      exact q1 H6 e6
end
end Hid

namespace Hid
open PySem PySem.Spec PyProof.Rows L2 Evl
theorem enc_uniq {α : Type} {R : α → α → Prop} (as : ∀ {a b}, R a b → ¬ R b a) : ∀ {l m : List α}, l.Pairwise R → m.Pairwise R → (∀ x, x ∈ l ↔ x ∈ m) → l = m
  | [], [], _, _, _ => rfl
  | [], b :: m, _, _, h => absurd ((h b).mpr List.mem_cons_self) List.not_mem_nil
  | a :: l, [], _, _, h => absurd ((h a).mp List.mem_cons_self) List.not_mem_nil
  | a :: l, b :: m, h1, h2, h => by
    obtain ⟨a1, a2⟩ := List.pairwise_cons.mp h1
    obtain ⟨b1, b2⟩ := List.pairwise_cons.mp h2
    have irr : ∀ {x}, ¬ R x x := fun {x} h => as h h
    have hab : a = b := by
      rcases List.mem_cons.mp ((h a).mp List.mem_cons_self) with z | z
      · exact z
      · rcases List.mem_cons.mp ((h b).mpr List.mem_cons_self) with y | y
        · exact y.symm
        · exact absurd (a1 b y) (as (b1 a z))
    subst hab
    rw [enc_uniq as a2 b2 fun x => ?_]
    refine ⟨fun hx => ?_, fun hx => ?_⟩
    · rcases List.mem_cons.mp ((h x).mp (List.mem_cons_of_mem _ hx)) with y | y
      · exact absurd (y ▸ a1 x hx) irr
      · exact y
    · rcases List.mem_cons.mp ((h x).mpr (List.mem_cons_of_mem _ hx)) with y | y
      · exact absurd (y ▸ b1 x hx) irr
      · exact y
theorem lt_as {a b : List Nat} (h : a < b) : ¬ b < a := fun z => List.lt_irrefl _ (List.lt_trans h z)
theorem ltP_as {p q : Tp} (h : LtP p q) : ¬ LtP q p := fun z => by
  rcases h with h | ⟨h1, h2⟩ <;> rcases z with z | ⟨z1, z2⟩
  · exact lt_as h z
  · rw [z1] at h; exact List.lt_irrefl _ h
  · rw [h1] at z; exact List.lt_irrefl _ z
  · exact lt_as h2 z2
theorem sh_same {S S' : List (List Nat)} (e : ∀ x, x ∈ S ↔ x ∈ S') {i j u v : Nat} : Sh S i j u v ↔ Sh S' i j u v := ⟨fun ⟨h, a, b⟩ => ⟨h, (e h).mp a, b⟩, fun ⟨h, a, b⟩ => ⟨h, (e h).mpr a, b⟩⟩
theorem kn_same {S S' : List (List Nat)} (e : ∀ x, x ∈ S ↔ x ∈ S') {n : Nat} {k : List Nat} : Kn S n k ↔ Kn S' n k := and_congr_right fun _ => forall_congr' fun _ => forall_congr' fun _ => forall_congr' fun _ => forall_congr' fun _ => sh_same e
theorem spe_same {S S' : List (List Nat)} (e : ∀ x, x ∈ S ↔ x ∈ S') {i j : Nat} : SpE S i j ↔ SpE S' i j := ⟨fun h a ha b hb => h a ((e a).mpr ha) b ((e b).mpr hb), fun h a ha b hb => h a ((e a).mp ha) b ((e b).mp hb)⟩
theorem tie_same {S S' : List (List Nat)} (e : ∀ x, x ∈ S ↔ x ∈ S') {n : Nat} {a b : List Nat} {i : Nat} : Tie S n a b i ↔ Tie S' n a b i := by
  unfold Tie
  rw [kn_same e, kn_same e]
  exact and_congr_right fun _ => and_congr_right fun _ => and_congr_right fun _ => forall_congr' fun j => forall_congr' fun _ => by rw [spe_same e]
theorem hs_same {S S' : List (List Nat)} (e : ∀ x, x ∈ S ↔ x ∈ S') {n : Nat} (h : HS S n) : HS S' n := ⟨(fun z => by
  obtain ⟨x, hx⟩ := List.exists_mem_of_ne_nil _ h.ne
  have := (e x).mp hx
  rw [z] at this
  cases this), fun x hx => h.hh x ((e x).mpr hx), (fun i j hi hj hij => by
  obtain ⟨u, v, a, b, c⟩ := h.nc i j hi hj hij
  exact ⟨u, v, a, b, fun z => c ((sh_same e).mpr z)⟩)⟩
theorem knL_same {S S' : List (List Nat)} (e : ∀ x, x ∈ S ↔ x ∈ S') (n : Nat) : knL S n = knL S' n := enc_uniq lt_as (knL_pw S n) (knL_pw S' n) fun x => knL_iff.trans ((kn_same e).trans knL_iff.symm)
theorem tiL_same {S S' : List (List Nat)} (e : ∀ x, x ∈ S ↔ x ∈ S') {n : Nat} {h0 h0' : List Nat} (hs : HS S n) (h0m : h0 ∈ S) (h0m' : h0' ∈ S') : tiL S h0 (knL S n) = tiL S' h0' (knL S' n) :=
  enc_uniq ltP_as (tiL_pw S h0 (knL_pw S n)) (tiL_pw S' h0' (knL_pw S' n)) fun p => (tiL_mem hs h0m).trans ((and_congr_right fun _ => exists_congr fun i => tie_same e).trans (tiL_mem (hs_same e hs) h0m').symm)
theorem h0_mem {S : List (List Nat)} (h : S ≠ []) : S.getD 0 [] ∈ S := by
  have hpos : 0 < S.length := List.length_pos_iff.mpr h
  rw [List.getD_eq_getElem?_getD, List.getElem?_eq_getElem hpos]; exact List.getElem_mem hpos
section
variable {K : PySem.W.Frag} {σ : L2.St} {H : Hp} {ta tb te tl : TE} {D : Ends} {tz : L2.TS} {P : V → Hp → Prop}
theorem s_appP {l : Addr} {xs : List V} (hl : H l = some (.lst xs)) (ha : Ev ta σ H (.ref l)) (h : EvP te σ H P) (hz : xs.length < 100000) (k : ∀ v H1, Ex H H1 → P v H1 → D.nx σ (upd H1 l (.lst (xs ++ [v])))) : tDrop (tBM K "list" rAppend ta (tCons te tNil)) D σ H := ha H (Ex.refl H) _ fun H1 e1 =>
  ⟨Or.inl ⟨rfl, xs, sq_of (e1 l _ hl)⟩, h H1 e1 _ fun v H2 e2 hv => ⟨l, xs, v, rfl, rfl, e2 l _ (e1 l _ hl), sz_lt hz, k v H2 (e1.trans e2) hv⟩⟩
end
theorem cross_none {S : List (List Nat)} {n : Nat} {r : Option (Nat × Nat × List Str)} (hs : HS S n) (hr : IsCross (four (srt (S.map tx))) n r) : r = none := by
  cases r with
  | none => rfl
  | some w =>
  obtain ⟨i, j, F⟩ := w
  exfalso
  obtain ⟨hij, hj, hf, _⟩ := hr
  obtain ⟨u, v', hu, hv', hn⟩ := hs.nc i j (by omega) hj (by omega)
  unfold four at hf
  have sh : ∀ {p : Str} {x : Str}, fstAt (srt (S.map tx)) i j p = some x → ∃ h ∈ S, tx [aT h i, aT h j] = p := fun {p x} h => by
    have h1 := List.mem_of_find?_eq_some h
    have h2 := List.find?_some h
    obtain ⟨y, hy, rfl⟩ := List.mem_map.mp (mem_srt.mp h1)
    exact ⟨y, hy, by rw [← pr_tx]; exact of_decide_eq_true h2⟩
  have con : ∀ {u v : Nat} {p : Str}, p = tx [u, v] → (∃ h ∈ S, tx [aT h i, aT h j] = p) → Sh S i j u v := fun {u v p} e ⟨h, hm, e2⟩ => by
    rw [e] at e2
    have z := tx_inj e2
    exact ⟨h, hm, (List.cons.inj z).1, (List.cons.inj (List.cons.inj z).2).1⟩
  split at hf
  · rename_i x1 x2 x3 x4 f1 f2 f3 f4
    refine hn ?_
    rcases hu with rfl | rfl <;> rcases hv' with rfl | rfl
    · exact con rfl (sh f1)
    · exact con rfl (sh f2)
    · exact con rfl (sh f3)
    · exact con rfl (sh f4)
  · cases hf
section
variable {P : Program} {w : World} {K : PySem.W.Frag} {mg : Str → Option Value} {base : Heap}
def sp_ties_for (K : PySem.W.Frag) (ts : List Addr) : Sp := fun vs H Q _ => ∃ (a k : Addr) (S : List (List Nat)) (n : Nat) (Kl : List (List Nat)), vs = [.ref a, .ref k] ∧ SqT K H a (S.map fun h => V.str (tx h)) ∧ (S ≠ [] ∧ S.length < 1000 ∧ (1 ≤ n ∧ n ≤ 8) ∧ ∀ h ∈ S, HalfN n h) ∧ H k = some (.lst (Kl.map fun h => V.str (tx h))) ∧ (Kl.length ≤ 256 ∧ ∀ h ∈ Kl, HalfN n h) ∧ ∀ l us H2, H l = none → Ex H H2 → H2 l = some (.lst us) → Tis H2 us (tiL S (S.getD 0 []) Kl) → Q (.ref l) H2
theorem ok_ties_for {ts : List Addr} (D : Df K mg "ties_for" st_ties_for ["halves", "knots"]) (m_enumerate : mg "enumerate" = none) (A_unlike_places : At P w K mg base "unlike_places" st_unlike_places 1 ["one", "other"] (sp_unlike_places K ts)) (A_change_together : At P w K mg base "change_together" st_change_together 2 ["halves", "places"] (sp_change_together K ts)) : At P w K mg base "ties_for" st_ties_for 3 ["halves", "knots"] (sp_ties_for K ts) := by
  obtain ⟨f, fd, F, b, g⟩ := D
  obtain ⟨f_unlike_places, fd_unlike_places, F_unlike_places, b_unlike_places, g_unlike_places, G_unlike_places⟩ := A_unlike_places
  obtain ⟨f_change_together, fd_change_together, F_change_together, b_change_together, g_change_together, G_change_together⟩ := A_change_together
  refine ⟨f, fd, F, b, g, F.ok sc_ties_for (fun vs H Q E h => ?_) (fun cdv A outer s H vs Q E hr h => ?_)⟩
  · obtain ⟨a, k, S, n, Kl, rfl, _⟩ := h
    rfl
  · obtain ⟨a, k, S, n, Kl, rfl, hS, hok, hk, ⟨hKl, hKh⟩, q⟩ := h
    refine ⟨_, (pss_cons (ps_set (i := 2) sc_ties_for.nd rfl (.inl rfl) (pe_lst pa_nil))
      (pss_cons (ps_for PassesOwn.never rfl (pi_enum (by rfl) m_enumerate (pa_cons (pv 1) pa_nil)) (pg_tup (by rfl) (pgs_cons (pg_name (i := 3) sc_ties_for.nd rfl (.inl rfl)) (pgs_cons (pg_name (i := 4) sc_ties_for.nd rfl (.inl rfl)) pgs_nil)))
      (pss_one (ps_for PassesOwn.never rfl (pi_list (pe_slice sl_list (pv 1) (po_some (pe_op op_add (pv 3) pe_int)) po_none)) (pg_name (i := 5) sc_ties_for.nd rfl (.inl rfl))
      (pss_cons (ps_set (i := 6) sc_ties_for.nd rfl (.inl rfl) (pe_call G_unlike_places (hr.mono (by decide)) (by rfl) g_unlike_places F_unlike_places.kp b_unlike_places .nil pass0 (pa_cons (pv 4) (pa_cons (pv 5) pa_nil))))
      (pss_one (ps_if (pt_val (pe_call G_change_together (hr.mono (by decide)) (by rfl) g_change_together F_change_together.kp b_change_together .nil pass0 (pa_cons (pv 0) (pa_cons (pv 6) pa_nil))))
      (pss_one (ps_expr (pe_bm PySem.F.plainAttrs_list PySem.F.slot_list_append PySem.F.type_list_append mt_append (pv 2) (pa_cons (pe_tup (pa_cons (pv 4) (pa_cons (pv 5) (pa_cons (pv 6) pa_nil)))) pa_nil))))
      pss_nil))))))
      (pss_one (ps_ret (pv 2))))), ?_⟩
    obtain ⟨hS0, hSl, ⟨hn1, hn8⟩, hSh⟩ := id hok
    refine q_asgL (el_lst ea_nil (by decide)) fun l H1 nl e1 h1 => ?_
    have hkl : k ≠ l := fun z => by rw [z, nl] at hk; cases hk
    have tot : ∀ i, i ≤ Kl.length → ((List.range i).flatMap (tiA S (S.getD 0 []) Kl)).length ≤ i * 256 := fun i hi => by
      have := flk_len (tiA S (S.getD 0 []) Kl) 256 (List.range i) fun x _ => Nat.le_trans (tiA_len _ _ _ _) hKl
      rw [List.length_range] at this
      exact this
    refine ⟨_, rfl, k, _, rfl, sq_of (e1 _ _ hk), for_it (walk_enum (xs := Kl.map fun h => V.str (tx h))) (fun i σ' H' => ∃ (y3 y4 y5 y6 : Option V) (us : List V), σ' = [some (.ref a), some (.ref k), some (.ref l), y3, y4, y5, y6] ∧ Ex H H' ∧ H' l = some (.lst us) ∧ Tis H' us ((List.range i).flatMap (tiA S (S.getD 0 []) Kl))) ⟨_, _, _, _, [], rfl, e1, h1, .nil⟩ (fun i σ' H' _ hP => ?_) (fun i x σ' H2 H2' hi hP hY => ?_) (fun σ' H2 hP => ?_)⟩
    · obtain ⟨_, _, _, _, _, _, e2, _⟩ := hP
      exact sq_of (e2 _ _ hk)
    · obtain ⟨y3, y4, y5, y6, us, rfl, e2, h2, hu⟩ := hP
      obtain ⟨T, x1, x2, rfl, hTn, rfl, hx1, hx2⟩ := hY
      cases hx1
      replace hx2 : (Kl.map fun h => V.str (tx h))[i]? = some x2 := hx2
      rw [List.length_map] at hi
      rw [List.getElem?_map] at hx2
      obtain ⟨z, hz, rfl⟩ := Option.map_eq_some_iff.mp hx2
      have hgz : Kl.getD i [] = z := by rw [List.getD_eq_getElem?_getD, hz]; rfl
      have hzh := hKh z (List.mem_of_getElem? hz)
      have eT := Ex.new (o := .tup [.int (i : Nat), .str (tx z)]) hTn
      refine ⟨T, [.int (i : Nat), .str (tx z)], rfl, st_of upd_same, rfl, _, [_], rfl, _, [], rfl, rfl, ?_⟩
      have e2T := e2.trans eT
      have h2T := eT _ _ h2
      have huT := Tis.tk hu (Tk.ex eT)
      generalize upd H2 T (.tup [.int (i : Nat), .str (tx z)]) = H3 at e2T h2T huT
      have c2 : cutV (Kl.map fun h => V.str (tx h)) (some ((i : Int) + 1)) none = (Kl.drop (i + 1)).map fun h => V.str (tx h) := by have := cut_drop (xs := Kl.map fun h => V.str (tx h)) (i + 1); rw [Int.natCast_add] at this; rw [List.map_drop]; exact this
      refine (el_isL (el_sl (K := K) (ev_var rfl) (eo_some (ev_op (ev_var rfl) ev_c rv_I0)) eo_none (sq_of (e2T _ _ hk))) c2) H3 (Ex.refl _) _ fun pl H4 npl e4 h4 => ?_
      have npl0 : pl ≠ l := fun q => by rw [q, h2T] at npl; cases npl
      have hdl : (Kl.drop (i + 1)).length ≤ 256 := by rw [List.length_drop]; omega
      refine ⟨pl, rfl, ⟨_, sq_of h4⟩, for_it (walk_list (xs := (Kl.drop (i + 1)).map fun h => V.str (tx h))) (fun j σ' H' => ∃ (y5 y6 : Option V) (us : List V), σ' = [some (.ref a), some (.ref k), some (.ref l), some (.int (i : Nat)), some (.str (tx z)), y5, y6] ∧ Ex H H' ∧ H' l = some (.lst us) ∧ H' pl = some (.lst ((Kl.drop (i + 1)).map fun h => V.str (tx h))) ∧ Tis H' us ((List.range i).flatMap (tiA S (S.getD 0 []) Kl) ++ (((Kl.drop (i + 1)).take j).filter fun b => tgB S (S.getD 0 []) (unl z b)).map fun b => (z, b))) ⟨_, _, us, rfl, e2T.trans e4, e4 _ _ h2T, h4, by rw [List.take_zero, List.filter_nil, List.map_nil, List.append_nil]; exact Tis.tk huT (Tk.ex e4)⟩ (fun j σ' H' _ hP => ?_) (fun j y σ' H5 H5' hj hP hY => ?_) (fun σ' H5 hP => ?_)⟩
      · obtain ⟨_, _, _, _, _, _, hp, _⟩ := hP
        exact sq_of hp
      · obtain ⟨y5, y6, us5, rfl, e5, h5, hp5, hu5⟩ := hP
        obtain ⟨rfl, hy⟩ := hY
        rw [List.getElem?_map] at hy
        obtain ⟨b, hb, rfl⟩ := Option.map_eq_some_iff.mp hy
        rw [List.length_map] at hj
        have hbh := hKh b (List.mem_of_mem_drop (List.mem_of_getElem? hb))
        have lu : us5.length < 100000 := by
          rw [paired_len hu5, List.length_append, List.length_map]
          have a1 := tot i (by omega)
          have a2 := List.length_filter_le (fun b => tgB S (S.getD 0 []) (unl z b)) ((Kl.drop (i + 1)).take j)
          rw [List.length_take] at a2
          omega
        refine c_call (ea_cons (ev_var rfl) (ea_cons (ev_var rfl) ea_nil)) fun G6 g6 => ⟨z, b, n, rfl, hzh, hbh, hn8, fun pp H6 npp e6' h6 => ?_⟩
        have e6 := g6.trans e6'
        have e06 := e5.trans e6
        have hul : (unl z b).length ≤ 8 ∧ ∀ p ∈ unl z b, p < n := ⟨by
          unfold unl
          refine Nat.le_trans (List.length_filter_le _ _) ?_
          rw [List.length_range, hzh.1]
          exact hn8, fun p hp => ((unl_mem hzh.1).mp hp).1⟩
        refine s_when (b := tgB S (S.getD 0 []) (unl z b)) (et_B (ev_call (ea_cons (ev_var rfl) (ea_cons (ev_var rfl) ea_nil)) fun G g Q1 q1 E1 => ⟨a, pp, S, n, unl z b, rfl, ex_t (e06.trans g) hS, hok, st_of (g _ _ h6), hul, q1⟩)) (fun hb2 H7 e7 => ?_) (fun hb2 H7 e7 => ⟨_, _, us5, rfl, e06.trans e7, (e6.trans e7) _ _ h5, (e6.trans e7) _ _ hp5, ?_⟩)
        · have h7 := (e6.trans e7) _ _ h5
          refine s_appP (K := K) (P := fun v G => TiA G v (z, b)) h7 (ev_var rfl) (fun G g Q1 q1 => ⟨_, rfl, _, rfl, _, rfl, by show 3 ≤ sizeLine; decide, fun t nt => q1 _ _ (Ex.new nt) ⟨t, pp, rfl, upd_same, (e7.trans (g.trans (Ex.new nt))) _ _ h6⟩⟩) lu fun v H8 e8 hv => ⟨_, _, us5 ++ [v], rfl, (e06.trans (e7.trans e8)).mut nl, upd_same, by rw [upd_ne npl0]; exact (e6.trans (e7.trans e8)) _ _ hp5, ?_⟩
          have tk : Tk H8 (upd H8 l (.lst (us5 ++ [v]))) := Tk.lst (e8 _ _ h7)
          rw [take_fl hb, if_pos hb2, List.map_append, ← List.append_assoc]
          exact paired_app (Tis.tk hu5 ((Tk.ex (e6.trans (e7.trans e8))).trans tk)) (.cons (hv.tk tk) .nil)
        · rw [take_fl hb, if_neg (by rw [hb2]; decide), List.append_nil]
          exact Tis.tk hu5 (Tk.ex (e6.trans e7))
      · obtain ⟨y5, y6, us5, rfl, e5, h5, hp5, hu5⟩ := hP
        rw [List.length_map, List.take_of_length_le (Nat.le_refl _)] at hu5
        refine ⟨_, _, _, _, us5, rfl, e5, h5, ?_⟩
        rw [List.range_succ, List.flatMap_append, List.flatMap_singleton]
        unfold tiA
        rw [hgz]
        exact hu5
    · obtain ⟨y3, y4, y5, y6, us, rfl, e2, h2, hu⟩ := hP
      rw [List.length_map] at hu
      exact s_ret (ev_var rfl) fun H3 e3 => q l us H3 nl (e2.trans e3) (e3 _ _ h2) (Tis.tk hu (Tk.ex e3))
def sp_tree_of (K : PySem.W.Frag) (ts : List Addr) (c_NoTree : Addr) : Sp := fun vs H Q E => ∃ (a : Addr) (S : List (List Nat)) (n : Nat), vs = [.ref a] ∧ SqT K H a (S.map fun h => V.str (tx h)) ∧ (S ≠ [] ∧ S.length < 1000 ∧ (1 ≤ n ∧ n ≤ 8) ∧ ∀ h ∈ S, HalfN n h) ∧ TB ts H ∧ (∀ v H2, Ex H H2 → HS S n → TrA H2 v (knL S n) (tiL S (S.getD 0 []) (knL S n)) → Q v H2) ∧ ∀ (z : Nat × Nat × List Str) (v : V) (d : Addr) (H2 : Hp), Ex H H2 → IsCross (four (srt (S.map tx))) n (some z) → ResX H2 v (some z) → H2 d = some (.xd [("crossing", v)]) → E (.ref c_NoTree) (some d) H2
theorem ok_tree_of {ts : List Addr} {c_NoTree : Addr} {fN_NoTree : Addr} {fdN_NoTree : FuncData} (D : Df K mg "tree_of" st_tree_of ["halves"]) (m_tuple : mg "tuple" = none) (E_NoTree : ErrF P w K mg base "NoTree" "crossing" c_NoTree fN_NoTree fdN_NoTree) (A_crossing_of : At P w K mg base "crossing_of" st_crossing_of 3 ["halves"] (sp_crossing_of K ts)) (A_knots_for : At P w K mg base "knots_for" st_knots_for 4 ["halves"] (sp_knots_for K ts)) (A_ties_for : At P w K mg base "ties_for" st_ties_for 3 ["halves", "knots"] (sp_ties_for K ts)) : AtX P w K mg base "tree_of" st_tree_of 5 ["halves"] (sp_tree_of K ts c_NoTree) := by
  obtain ⟨f, fd, F, b, g⟩ := D
  obtain ⟨f_crossing_of, fd_crossing_of, F_crossing_of, b_crossing_of, g_crossing_of, G_crossing_of⟩ := A_crossing_of
  obtain ⟨f_knots_for, fd_knots_for, F_knots_for, b_knots_for, g_knots_for, G_knots_for⟩ := A_knots_for
  obtain ⟨f_ties_for, fd_ties_for, F_ties_for, b_ties_for, g_ties_for, G_ties_for⟩ := A_ties_for
  refine ⟨f, fd, F, b, g, F.okX sc_tree_of (fun vs H Q E h => ?_) (fun cdv A outer s H vs Q E hr h => ?_)⟩
  · obtain ⟨a, S, n, rfl, _⟩ := h
    rfl
  · obtain ⟨a, S, n, rfl, hS, hok, hT, q, hE⟩ := h
    have tk : Takes (cxOf (L2.CX P w) P w K mg base ["halves", "crossing", "knots"] "tree_of" (defScope st_tree_of) f cdv A outer s H E) (fun cls d _ H => E cls d H) := takes_of rfl rfl rfl rfl
    have psO : PassesOwn (model P w) (cxOf (L2.CX P w) P w K mg base ["halves", "crossing", "knots"] "tree_of" (defScope st_tree_of) f cdv A outer s H E).A (cxOf (L2.CX P w) P w K mg base ["halves", "crossing", "knots"] "tree_of" (defScope st_tree_of) f cdv A outer s H E).env (cxOf (L2.CX P w) P w K mg base ["halves", "crossing", "knots"] "tree_of" (defScope st_tree_of) f cdv A outer s H E).xe := passes_of rfl
    refine ⟨_, (pss_cons (ps_set (i := 1) sc_tree_of.nd rfl (.inl rfl) (pe_call G_crossing_of (hr.mono (by decide)) (by rfl) g_crossing_of F_crossing_of.kp b_crossing_of .nil pass0 (pa_cons (pv 0) pa_nil)))
      (pss_cons (ps_if (pt_cmpR op_notN (pv 1) pe_non (nomark _))
      (pss_one (ps_raise rfl tk (L2.pmk_oex E_NoTree.oex E_NoTree.ini E_NoTree.ty E_NoTree.fn (hr.mono (by decide)) E_NoTree.bn .nil pass0 (by rfl) E_NoTree.glob (pa_cons (pv 1) pa_nil))))
      pss_nil)
      (pss_cons (ps_set (i := 2) sc_tree_of.nd rfl (.inl rfl) (pe_call G_knots_for (hr.mono (by decide)) (by rfl) g_knots_for F_knots_for.kp b_knots_for .nil pass0 (pa_cons (pv 0) pa_nil)))
      (pss_one (ps_ret (pe_tup (pa_cons (pe_callTy call_tuple_of (by rfl) m_tuple (by decide +kernel) (pa_cons (pv 2) pa_nil)) (pa_cons (pe_callTy call_tuple_of (by rfl) m_tuple (by decide +kernel) (pa_cons (pe_call G_ties_for (hr.mono (by decide)) (by rfl) g_ties_for F_ties_for.kp b_ties_for .nil pass0 (pa_cons (pv 0) (pa_cons (pv 2) pa_nil))) pa_nil)) pa_nil)))))))), ?_⟩
    obtain ⟨hS0, hSl, ⟨hn1, hn8⟩, hSh⟩ := id hok
    have em : (S.map tx).map V.str = S.map fun h => V.str (tx h) := by rw [List.map_map]; rfl
    refine c_call (ea_cons (ev_var rfl) ea_nil) fun G1 g1 => ⟨a, S.map tx, n, rfl, by rw [em]; exact ex_t g1 hS, ⟨fun z => hS0 (List.map_eq_nil_iff.mp z), by rw [List.length_map]; exact hSl, by omega, fun h hh => by obtain ⟨x, hx, rfl⟩ := List.mem_map.mp hh; exact half_S (hSh x hx)⟩, fun r v H1 hr e1' hv => ?_⟩
    have e1 : Ex H H1 := g1.trans e1'
    dsimp only [gName]
    cases r with
    | some z =>
      have hne : v ≠ .non := fun e => by
        obtain ⟨i, j, F⟩ := z
        obtain ⟨t, u, ev, _⟩ := hv
        rw [e] at ev
        cases ev
      refine q_when (b := true) (et_is (et_test (ev_op (ev_var rfl) ev_c rv_notN)) (by rw [decide_eq_false hne]; rfl)) (fun _ H2 e2 => ?_) (fun hb H2 e2 => absurd hb (by decide))
      exact mk_fld E_NoTree.oex E_NoTree.nof (ev_var rfl) fun d H3 nd e3 h3 => hE z v d H3 (e1.trans (e2.trans e3)) hr (ResX.ex (e2.trans e3) hv) h3
    | none =>
    obtain rfl : v = .non := hv
    have hs := hs_of hS0 hSh hr
    refine q_when (b := false) (et_is (et_test (ev_op (ev_var rfl) ev_c rv_notN)) rfl) (fun hb H2 e2 => absurd hb (by decide)) (fun _ H2 e2 => ?_)
    have e02 := e1.trans e2
    refine c_call (ea_cons (ev_var rfl) ea_nil) fun G3 g3 => ⟨a, S, n, rfl, ex_t (e02.trans g3) hS, hok, hT.ex (e02.trans g3), fun pk H3 npk e3' h3 => ?_⟩
    have e3 : Ex H2 H3 := g3.trans e3'
    refine ⟨_, rfl, pk, _, rfl, .inl ⟨sq_of h3, fun bk nbk => ⟨_, rfl, _, rfl, a, pk, S, n, knL S n, rfl, ex_t (e02.trans (e3.trans (Ex.new nbk))) hS, hok, (Ex.new nbk) _ _ h3, ⟨knL_256 S hn8, fun h hh => ((knL_mem S n h).mp hh).1⟩, fun lt us H4 nlt e4 h4 hu4 => ⟨lt, us, rfl, .inl ⟨sq_of h4, fun bt nbt => ⟨by show 2 ≤ sizeLine; decide, fun t nt => ?_⟩⟩⟩⟩⟩⟩
    have f1 := (Ex.new (o := .tup us) nbt).trans (Ex.new (o := .tup [.ref bk, .ref bt]) nt)
    exact q _ _ (e02.trans (e3.trans ((Ex.new nbk).trans (e4.trans f1)))) hs ⟨t, bk, bt, us, rfl, upd_same, (e4.trans f1) _ _ upd_same, (Ex.new nt) _ _ upd_same, Tis.tk hu4 (Tk.ex f1)⟩
end
end Hid

namespace Hid
open PySem PySem.Spec PyProof.Rows L2 Evl
theorem flat_tx : ∀ l : List (List Nat), (l.map fun h => V.str (tx h)).all flatV = true
  | [] => rfl
  | _ :: l => flat_tx l
theorem inV_tx (k : List Nat) : ∀ l : List (List Nat), inV (.str (tx k)) (l.map fun h => V.str (tx h)) = decide (k ∈ l)
  | [] => rfl
  | a :: l => by
    show (decide (tx a = tx k) || inV (.str (tx k)) (l.map fun h => V.str (tx h))) = _
    rw [inV_tx k l]
    by_cases h : k = a
    · rw [h]; simp
    · have : ¬ tx a = tx k := fun z => h (tx_inj z).symm
      simp [h, this]
theorem tiL_out {S : List (List Nat)} {n : Nat} (hs : HS S n) (h0m : S.getD 0 [] ∈ S) {F : List (List Nat)} (h0 : F ≠ []) (hm : ∀ x ∈ F, x ∈ knL S n) (hl : F.length < (knL S n).length) (hc : ∀ p ∈ tiL S (S.getD 0 []) (knL S n), (p.1 ∈ F ↔ p.2 ∈ F)) : False := by
  obtain ⟨a, ha⟩ := List.exists_mem_of_ne_nil _ h0
  obtain ⟨b, hb, hbF⟩ : ∃ b ∈ knL S n, b ∉ F := by
    apply Classical.byContradiction
    intro z
    have : (knL S n).length ≤ F.length := nd_len (knL_nodup S n) fun x hx => Classical.byContradiction fun y => z ⟨x, hx, y⟩
    omega
  obtain ⟨c, d, i, ht, fc, fd⟩ := tie_out hs (F := fun x => x ∈ F) (knL_iff.mp (hm a ha)) (knL_iff.mp hb) ha hbF
  rcases tie_le ht with l | l
  · exact fd ((hc (c, d) ((tiL_mem hs h0m).mpr ⟨l, i, ht⟩)).mp fc)
  · exact fd ((hc (d, c) ((tiL_mem hs h0m).mpr ⟨l, i, ht.symm⟩)).mpr fc)
section
variable {K : PySem.W.Frag} {σ : L2.St} {H : Hp} {ta tb te tl : TE} {D : Ends} {tu tz : L2.TS} {P : V → Hp → Prop}
theorem q_forP {j : Nat} {xs : List V} (h : EvP te σ H (TupV K xs)) (Pv : Hp → Nat → L2.St → Hp → Prop) (h0 : ∀ G, Ex H G → Pv G 0 σ G) (hE : ∀ G i σ' H', Pv G i σ' H' → Ex G H')
    (hs : ∀ G i x σ' H', Ex H G → xs[i]? = some x → Pv G i σ' H' → tu { D with nx := Pv G (i + 1), ct := Pv G (i + 1), bk := tz D } (σ'.set j (some x)) H') (hd : ∀ G σ' H', Ex H G → Pv G xs.length σ' H' → tz D σ' H') : tSeq (tFor (iTup K te) (gName j) tu) tz D σ H :=
  h H (Ex.refl _) _ fun v G g ⟨p, ev, hp⟩ => by
    subst ev
    refine ⟨p, rfl, ⟨_, hp⟩, for_it (walk_tup (xs := xs)) (Pv G) (h0 G g) (fun i σ' H' _ hP => ex_t (hE G i σ' H' hP) hp) (fun i x σ' H2 H2' hi hP hY => ?_) (fun σ' H2 hP => hd G σ' H2 g hP)⟩
    obtain ⟨rfl, hx⟩ := hY
    exact hs G i x σ' _ g hx hP
theorem q_asgP {i : Nat} (h : EvP te σ H P) (k : ∀ v H1, Ex H H1 → P v H1 → tz D (σ.set i (some v)) H1) : tSeq (tAsg te (gName i)) tz D σ H := h H (Ex.refl H) _ fun v H1 e hv => k v H1 e hv
theorem s_asgP {i : Nat} (h : EvP te σ H P) (k : ∀ v H1, Ex H H1 → P v H1 → D.nx (σ.set i (some v)) H1) : tAsg te (gName i) D σ H := h H (Ex.refl H) _ fun v H1 e hv => k v H1 e hv
end
theorem strK {n : Nat} {k : List Nat} (h : HalfN n k) : PyData.canLay0 (.str (tx k)) = true := by
  simp [PyData.canLay0]
  exact strOk_sm fun c hc => by rcases h.2 c hc with z | z <;> omega
theorem cl_all {α : Type} {f : α → PyData} : ∀ {l : List α}, (∀ x ∈ l, PyData.canLay0 (f x) = true) → PyData.canLayAll0 (l.map f) = true
  | [], _ => rfl
  | x :: l, h => by
    show (PyData.canLay0 (f x) && PyData.canLayAll0 (l.map f)) = true
    rw [h x List.mem_cons_self, cl_all fun y hy => h y (List.mem_cons_of_mem _ hy)]
    rfl
theorem dp_all {α : Type} {f : α → PyData} {k : Nat} : ∀ {l : List α}, (∀ x ∈ l, PyData.depth (f x) ≤ k) → PyData.depthAll (l.map f) ≤ k
  | [], _ => Nat.zero_le _
  | x :: l, h => by
    show max (PyData.depth (f x)) (PyData.depthAll (l.map f)) ≤ k
    have := h x List.mem_cons_self
    have := dp_all fun y hy => h y (List.mem_cons_of_mem _ hy)
    omega
theorem clTi {n : Nat} {p : Tp} (h1 : HalfN n p.1) (h2 : HalfN n p.2) : PyData.canLay0 (encTi p) = true := by
  have a := strK h1
  have b := strK h2
  show (PyData.canLay0 (.str (tx p.1)) && (PyData.canLay0 (.str (tx p.2)) && (PyData.canLay0 (.tuple ((unl p.1 p.2).map fun i : Nat => PyData.int (i : Int))) && true))) = true
  rw [a, b]
  show (PyData.canLayAll0 ((unl p.1 p.2).map fun i : Nat => PyData.int (i : Int)) && true) = true
  rw [cl_nats]
  rfl
theorem dpTi (p : Tp) : (encTi p).depth ≤ 3 := by simp [encTi, PyData.depth, PyData.depthAll, dA_nats]
theorem shaped_nats (l : List Nat) : SeqAt.shaped (.tuple (l.map fun i : Nat => PyData.int (i : Int))) = true ∧ SeqAt.shaped (.list (l.map fun i : Nat => PyData.int (i : Int))) = true := by
  constructor <;> unfold SeqAt.shaped <;> simp [PyData.canLay0, PyData.depth, cl_nats, dA_nats]
theorem shaped_tis {T : List Tp} {n : Nat} (h : ∀ p ∈ T, HalfN n p.1 ∧ HalfN n p.2) : SeqAt.shaped (.list (T.map encTi)) = true := by
  have a : PyData.canLayAll0 (T.map encTi) = true := cl_all fun p hp => clTi (h p hp).1 (h p hp).2
  have b : PyData.depthAll (T.map encTi) ≤ 3 := dp_all fun p _ => dpTi p
  unfold SeqAt.shaped
  simp [PyData.canLay0, PyData.depth, a]
  omega
def strs0 (l : List (List Nat)) : List PyData := l.map fun h => PyData.str (tx h)
theorem shaped_strs0 {l : List (List Nat)} {n : Nat} (h : ∀ k ∈ l, HalfN n k) : SeqAt.shaped (.list (strs0 l)) = true := by
  have a : PyData.canLayAll0 (strs0 l) = true := cl_all fun p hp => strK (h p hp)
  have b : PyData.depthAll (strs0 l) ≤ 1 := dp_all fun p _ => by simp [PyData.depth]
  unfold SeqAt.shaped
  simp [PyData.canLay0, PyData.depth, a]
  omega
def dTree (Kl : List (List Nat)) (T : List Tp) : PyData := .tuple [.tuple (strs0 Kl), .tuple (T.map encTi)]
theorem shaped_tree {Kl : List (List Nat)} {T : List Tp} {n : Nat} (h0 : ∀ k ∈ Kl, HalfN n k) (h : ∀ p ∈ T, HalfN n p.1 ∧ HalfN n p.2) : SeqAt.shaped (dTree Kl T) = true := by
  have a1 : PyData.canLayAll0 (strs0 Kl) = true := cl_all fun p hp => strK (h0 p hp)
  have b1 : PyData.depthAll (strs0 Kl) ≤ 1 := dp_all fun p _ => by simp [PyData.depth]
  have a : PyData.canLayAll0 (T.map encTi) = true := cl_all fun p hp => clTi (h p hp).1 (h p hp).2
  have b : PyData.depthAll (T.map encTi) ≤ 3 := dp_all fun p _ => dpTi p
  unfold SeqAt.shaped
  simp [dTree, PyData.canLay0, PyData.canLayAll0, PyData.depth, PyData.depthAll, a, a1]
  omega
theorem strs0_dp {K : PySem.W.Frag} {H : Hp} : ∀ l : List (List Nat), DpAll K H (l.map fun h => V.str (tx h)) (strs0 l)
  | [] => .nil
  | h :: l => .cons (.str _) (strs0_dp l)
theorem TrA.dp {K : PySem.W.Frag} {H : Hp} {v : V} {Kl : List (List Nat)} {T : List Tp} (h : TrA H v Kl T) : Dp K H v (dTree Kl T) := by
  obtain ⟨t, bk, bt, us, rfl, h1, h2, h3, h4⟩ := h
  exact .tup (st_of h1) (.cons (.tup (st_of h2) (strs0_dp _)) (.cons (.tup (st_of h3) (Tis.dp h4)) .nil))
theorem any_false (n : Nat) : (((List.range n).map fun _ => false).any id) = false := by
  rw [List.any_map]
  exact List.any_eq_false.mpr fun x _ => by simp
theorem perm_nat {l m : List Nat} (h : l.Perm m) (hm : m.Pairwise (· < ·)) {ns : List Int} (hp : ns.Perm (l.map fun i : Nat => (i : Int))) (hs : ns.Pairwise (· ≤ ·)) : ns = m.map fun i : Nat => (i : Int) := by
  refine (hp.trans (h.map _)).eq_of_pairwise (fun a b _ _ x y => Int.le_antisymm x y) hs ?_
  exact List.pairwise_map.mpr (hm.imp fun {a b} z => by show (a : Int) ≤ b; omega)
section
variable {K : PySem.W.Frag} {σ : L2.St} {H : Hp} {ta tb te tl : TE} {D : Ends} {tu tz : L2.TS} {P : V → Hp → Prop}
theorem s_extT {l b : Addr} {xs zs : List V} (hl : H l = some (.lst xs)) (ha : Ev ta σ H (.ref l)) (h : Ev te σ H (.ref b)) (hb : SqT K H b zs) (hz : xs.length + zs.length ≤ 100000) (k : ∀ H1, Ex H H1 → D.nx σ (upd H1 l (.lst (xs ++ zs)))) :
    tDrop (tBM K "list" (rExtT K) ta (tCons te tNil)) D σ H := ha H (Ex.refl H) _ fun H1 e1 =>
  ⟨Or.inl ⟨rfl, xs, sq_of (e1 l _ hl)⟩, h H1 e1 _ fun H2 e2 => ⟨l, b, xs, zs, rfl, rfl, e2 l _ (e1 l _ hl), ex_t (e1.trans e2) hb, Nat.le_trans hz (by decide), k H2 (e1.trans e2)⟩⟩
theorem ev_anyE {bs : List Bool} (h : EvL tl σ H (bs.map V.bl)) : Ev (tCB (rAny K) (tCons tl tNil)) σ H (.bl (bs.any id)) := fun H1 e Q q =>
  h H1 e _ fun p H2 _ e2 h2 => ⟨p, bs, rfl, sq_of h2, q H2 e2⟩
theorem ev_allE {bs : List Bool} (h : EvL tl σ H (bs.map V.bl)) : Ev (tCB (rAll K) (tCons tl tNil)) σ H (.bl (bs.all id)) := fun H1 e Q q =>
  h H1 e _ fun p H2 _ e2 h2 => ⟨p, bs, rfl, sq_of h2, q H2 e2⟩
end
theorem rise_uq {as bs : List Str} (h1 : Rise as) (h2 : Rise bs) (h : ∀ x, x ∈ as ↔ x ∈ bs) : as = bs := by
  have nd : ∀ {l : List Str}, Rise l → l.Nodup := fun h => h.imp fun {x y} q e => by
    rw [e] at q
    exact List.lt_irrefl _ q
  exact ((List.perm_ext_iff_of_nodup (nd h1) (nd h2)).mpr h).eq_of_pairwise (fun x y _ _ p q => absurd (List.lt_trans p q) (List.lt_irrefl _)) h1 h2
theorem all_true (n : Nat) : (((List.range n).map fun _ => true).all id) = true := by
  rw [List.all_map]
  exact List.all_eq_true.mpr fun x _ => rfl
theorem given_yes' (n : Nat) : given n (fun _ => true) (fun _ => V.bl true) = ((List.range n).map fun _ => true).map V.bl := by
  rw [given_true, List.map_map]
  rfl
theorem given_cnt {α : Type} (l : List α) (d : α) (p : α → Bool) (v : Nat → V) : (given l.length (fun i => p (l.getD i d)) v).length = (l.filter p).length := by
  unfold given
  rw [List.length_map]
  have e : l = (List.range l.length).map fun i => l.getD i d := by
    refine List.ext_getElem (by rw [List.length_map, List.length_range]) fun i h1 h2 => ?_
    rw [List.getElem_map, List.getElem_range, List.getD_eq_getElem?_getD, List.getElem?_eq_getElem h1]
    rfl
  conv => rhs; rw [e]
  rw [List.filter_map, List.length_map]
  rfl
theorem rep_okL {α : Type} {n : Nat} {hs : List α} (h0 : hs ≠ []) (hl : hs.length ≤ 10) (hn : 4 ≤ n ∧ n ≤ 40) : (List.replicate n hs).flatten ≠ [] ∧ (List.replicate n hs).flatten.length < 1000 ∧ ∀ x, x ∈ (List.replicate n hs).flatten ↔ x ∈ hs := by
  have hm : ∀ x, x ∈ (List.replicate n hs).flatten ↔ x ∈ hs := fun x => by
    rw [List.mem_flatten]
    constructor
    · rintro ⟨l, a, b⟩
      rw [List.eq_of_mem_replicate a] at b
      exact b
    · intro b
      exact ⟨hs, List.mem_replicate.mpr ⟨by omega, rfl⟩, b⟩
  refine ⟨fun z => ?_, ?_, hm⟩
  · cases hs with
    | nil => exact h0 rfl
    | cons y r =>
      have := (hm y).mpr List.mem_cons_self
      rw [z] at this
      cases this
  · rw [List.length_flatten, List.map_replicate, List.sum_replicate_nat]
    have : n * hs.length ≤ 40 * 10 := Nat.mul_le_mul hn.2 hl
    omega
theorem hs_one {h : List Nat} {n : Nat} (hh : HalfN n h) : HS [h] n := ⟨by simp, (fun x hx => by rw [List.mem_singleton.mp hx]; exact hh), fun i j hi hj hij => ⟨tn (aT h i), 110, tn_ny, .inl rfl, fun ⟨x, hx, e, _⟩ => by
  rw [List.mem_singleton.mp hx] at e
  exact tn_ne e.symm⟩⟩
theorem knL_one {h : List Nat} {n : Nat} (hh : HalfN n h) : knL [h] n = [h] := enc_uniq lt_as (knL_pw [h] n) (List.pairwise_singleton _ _) fun x => by
  rw [knL_iff, List.mem_singleton]
  constructor
  · intro hx
    refine half_ext hx.1 hh fun i hi => ?_
    obtain ⟨y, hy, e, _⟩ := hx.2 i i hi hi
    rw [List.mem_singleton.mp hy] at e
    exact e.symm
  · intro e
    rw [e]
    exact kn_of (hs_one hh) (List.mem_singleton.mpr rfl)
theorem tiL_one {h : List Nat} {n : Nat} (hh : HalfN n h) : tiL [h] h (knL [h] n) = [] := by
  have := tiL_len (hs_one hh) (h0 := h) (List.mem_singleton.mpr rfl)
  rw [knL_one hh] at this ⊢
  exact List.length_eq_zero_iff.mp (by simpa using this)
section
variable {K : PySem.W.Frag} {σ : L2.St} {H : Hp} {ta tb te tl : TE} {D : Ends} {tu tz : L2.TS} {P : V → Hp → Prop}
theorem eu_slT {tl th : TO} {a : Addr} {xs : List V} {lo hi : Option Int} (h : Ev te σ H (.ref a)) (hs : SqT K H a xs) (h1 : EvO tl σ H lo) (h2 : EvO th σ H hi) (hn : ¬ (HT.sIx xs.length 0 lo = 0 ∧ HT.sIx xs.length xs.length hi = xs.length)) : EvU (tSl (rSlT K) te tl th) σ H (cutV xs lo hi) := fun H1 e Q q =>
  h H1 e _ fun H2 e2 => h1 H2 (e.trans e2) _ fun H3 e3 => h2 H3 ((e.trans e2).trans e3) _ fun H4 e4 => ⟨a, xs, rfl, ex_t (e.trans (e2.trans (e3.trans e4))) hs, hn, fun p np => q p _ (fresh_back (e2.trans (e3.trans e4)) np) ((e2.trans (e3.trans e4)).trans (Ex.new np)) upd_same⟩
theorem ed_tup0 : EvD K (tTup tNil) σ H (.tuple []) := fun H1 e Q q => ⟨by decide, fun p np => q _ _ (Ex.new np) fun H4 e4 => .tup (st_of (e4 _ _ upd_same)) .nil⟩
theorem ed_tup1 {x : V} {dx : PyData} (ha : Ev ta σ H x) (hx : ∀ G, Dp K G x dx) : EvD K (tTup (tCons ta tNil)) σ H (.tuple [dx]) := fun H1 e Q q =>
  ha H1 e _ fun H2 e2 => ⟨by show 1 ≤ sizeLine; decide, fun p np => q _ _ (e2.trans (Ex.new np)) fun H4 e4 => .tup (st_of (e4 _ _ upd_same)) (.cons (hx _) .nil)⟩
theorem ed_tup2D {d d2 : PyData} (ha : EvD K ta σ H d) (hb : EvD K tb σ H d2) : EvD K (tTup (tCons ta (tCons tb tNil))) σ H (.tuple [d, d2]) := fun H1 e Q q =>
  ha H1 e _ fun u H2 e2 hu => hb H2 (e.trans e2) _ fun v H3 e3 hv => ⟨by show 2 ≤ sizeLine; decide, fun p np => q _ _ (e2.trans (e3.trans (Ex.new np))) fun H4 e4 => .tup (st_of (e4 _ _ upd_same)) (.cons (hu H4 (e3.trans ((Ex.new np).trans e4))) (.cons (hv H4 ((Ex.new np).trans e4)) .nil))⟩
theorem ed_one {z : Str} (h : Ev te σ H (.str z)) : EvD K (tTup (tCons (tTup (tCons te tNil)) (tCons (tTup tNil) tNil))) σ H (.tuple [.tuple [.str z], .tuple []]) := ed_tup2D (ed_tup1 h fun _ => .str z) ed_tup0
end
section
variable {P : Program} {w : World} {K : PySem.W.Frag} {mg : Str → Option Value} {base : Heap}
end
end Hid

namespace Hid
open PySem PySem.Spec PyProof.Rows L2 Evl
theorem ex_del {H : Hp} {a : Addr} {o : HO} (na : H a = none) : Ex H (del (upd H a o) a) := fun b u hb => by
  rw [del_ne (ne_of_none hb na), upd_ne (ne_of_none hb na)]; exact hb
def up1 (c : Nat) : Nat := if 97 ≤ c ∧ c ≤ 122 then c - 32 else c
theorem up_tx : ∀ (k : List Nat), (∀ c ∈ k, c < 128) → Txt.upper (tx k) = tx (k.map up1)
  | [], _ => rfl
  | c :: k, h => by
    have e : tx (c :: k) = tx [c] ++ tx k := (tx_app [c] k).symm
    rw [e, PySem.W.KOpn.upper_app, up_tx k fun x hx => h x (List.mem_cons_of_mem _ hx)]
    rw [show Txt.upper (tx [c]) = tx [up1 c] from PySem.W.KOpn.upper_one (h c List.mem_cons_self)]
    exact tx_app [up1 c] (k.map up1)
theorem cut_end {k : List Nat} (h : 1 ≤ k.length) : cutS (tx k) none (some (-1)) = tx (k.take (k.length - 1)) := by
  have := cutS_take k (k.length - 1) (by omega)
  rw [← this]
  unfold cutS
  have e1 : HT.sIx (tx k).length (tx k).length (some (-1)) = HT.sIx (tx k).length (tx k).length (some ((k.length - 1 : Nat) : Int)) := by
    rw [HT.sIx_nat, tx_len]
    show (if (-1 : Int) < 0 then ((-1 : Int) + (k.length : Int)).toNat else min (-1 : Int).toNat k.length) = _
    rw [if_pos (by decide)]
    omega
  rw [e1]
section
variable {P : Program} {w : World} {K : PySem.W.Frag} {mg : Str → Option Value} {base : Heap}
def sp_knots_beside (K : PySem.W.Frag) (ts : List Addr) : Sp := fun _ _ _ _ => False
theorem ok_knots_beside {ts : List Addr} (D : Df K mg "knots_beside" st_knots_beside ["ties", "knot"]) : At P w K mg base "knots_beside" st_knots_beside 1 ["ties", "knot"] (sp_knots_beside K ts) := by
  obtain ⟨f, fd, F, b, g⟩ := D
  exact ⟨f, fd, F, b, g, F.ok sc_knots_beside (fun vs H Q E h => h.elim) (fun cdv A outer s H vs Q E hr h => h.elim)⟩
def sp_steps_towards (K : PySem.W.Frag) (ts : List Addr) : Sp := fun _ _ _ _ => False
theorem ok_steps_towards {ts : List Addr} (D : Df K mg "steps_towards" st_steps_towards ["ties", "end"]) : At P w K mg base "steps_towards" st_steps_towards 2 ["ties", "end"] (sp_steps_towards K ts) := by
  obtain ⟨f, fd, F, b, g⟩ := D
  exact ⟨f, fd, F, b, g, F.ok sc_steps_towards (fun vs H Q E h => h.elim) (fun cdv A outer s H vs Q E hr h => h.elim)⟩
def sp_is_knot (K : PySem.W.Frag) (ts : List Addr) : Sp := fun vs H Q _ => ∃ (tr v : V) (o : Option (List Nat)) (Kl : List (List Nat)) (T : List Tp), vs = [tr, v] ∧ TrA H tr Kl T ∧ Th K H v o ∧ RetV (.bl (o.any fun k => decide (k ∈ Kl))) H Q
theorem ok_is_knot {ts : List Addr} (D : Df K mg "is_knot" st_is_knot ["tree", "thing"]) (m_isinstance : mg "isinstance" = none) (m_str : mg "str" = none) : At P w K mg base "is_knot" st_is_knot 1 ["tree", "thing"] (sp_is_knot K ts) := by
  obtain ⟨f, fd, F, b, g⟩ := D
  refine ⟨f, fd, F, b, g, F.ok sc_is_knot (fun vs H Q E h => ?_) (fun cdv A outer s H vs Q E hr h => ?_)⟩
  · obtain ⟨tr, v, o, Kl, T, rfl, _⟩ := h
    rfl
  · obtain ⟨tr, v, o, Kl, T, rfl, hT, hv, q⟩ := h
    refine ⟨_, (pss_one (ps_ret (pe_and (pe_callB call_isi (by rfl) m_isinstance (by decide +kernel) (pa_cons (pv 1) (pa_cons (pe_bltn (v := .ty "str") (by rfl) m_str (by decide +kernel) rfl) pa_nil))) (pe_one (pe_cmpR op_in_seq (pv 1) (pe_ix ix_tup (pv 0) pe_int (fun _ _ => rfl)) rfl))))), ?_⟩
    obtain ⟨t, bk, bt, us, rfl, ht1, ht2, ht3, hu⟩ := hT
    refine s_ret (v := .bl (o.any fun k => decide (k ∈ Kl))) (ev_is (ev_andV (a := o.isSome) (b := o.any fun k => decide (k ∈ Kl)) (ev_isS (ev_var rfl) hv) fun ho => ?_) ?_) fun H1 e1 => q H1 e1
    · cases o with
      | none => cases ho
      | some k =>
        obtain ⟨rfl, _⟩ := hv
        exact ev_is (ev_op (ev_var rfl) (ev_op (ev_var rfl) ev_c (rv_ixT (st_of ht1) (atI_nat (j := 0) rfl))) (rv_isT (st_of ht2) rfl (flat_tx _))) (by rw [inV_tx]; rfl)
    · cases o with
      | none => rfl
      | some k => rfl
def sp_way_on (K : PySem.W.Frag) (ts : List Addr) (c_NoKnot : Addr) : Sp := fun vs H Q E => ∃ (tr v1 v2 : V) (o1 o2 : Option (List Nat)) (Kl : List (List Nat)) (T : List Tp), vs = [tr, v1, v2] ∧ TrA H tr Kl T ∧ Th K H v1 o1 ∧ Th K H v2 o2 ∧ ((o1.any fun k => decide (k ∈ Kl)) = false ∨ (o2.any fun k => decide (k ∈ Kl)) = false) ∧ ∀ H2, Ex H H2 → E (.ref c_NoKnot) none H2
theorem ok_way_on {ts : List Addr} {c_NoKnot : Addr} {fI : Addr} {fdI : FuncData} (D : Df K mg "way_on" st_way_on ["tree", "one", "other"]) (hI : HIn P w K mg base fI fdI) (E_NoKnot : ErrC K mg "NoKnot" c_NoKnot fI) (A_is_knot : At P w K mg base "is_knot" st_is_knot 1 ["tree", "thing"] (sp_is_knot K ts)) (A_steps_towards : At P w K mg base "steps_towards" st_steps_towards 2 ["ties", "end"] (sp_steps_towards K ts)) : AtX P w K mg base "way_on" st_way_on 3 ["tree", "one", "other"] (sp_way_on K ts c_NoKnot) := by
  obtain ⟨f, fd, F, b, g⟩ := D
  obtain ⟨f_is_knot, fd_is_knot, F_is_knot, b_is_knot, g_is_knot, G_is_knot⟩ := A_is_knot
  obtain ⟨f_steps_towards, fd_steps_towards, F_steps_towards, b_steps_towards, g_steps_towards, G_steps_towards⟩ := A_steps_towards
  refine ⟨f, fd, F, b, g, F.okX sc_way_on (fun vs H Q E h => ?_) (fun cdv A outer s H vs Q E hr h => ?_)⟩
  · obtain ⟨tr, v1, v2, o1, o2, Kl, T, rfl, _⟩ := h
    rfl
  · obtain ⟨tr, v1, v2, o1, o2, Kl, T, rfl, hT, h1, h2, hn, hE⟩ := h
    have tk : Takes (cxOf (L2.CX P w) P w K mg base ["tree", "one", "other", "steps", "way", "knot"] "way_on" (defScope st_way_on) f cdv A outer s H E) (fun cls d _ H => E cls d H) := takes_of rfl rfl rfl rfl
    have psO : PassesOwn (model P w) (cxOf (L2.CX P w) P w K mg base ["tree", "one", "other", "steps", "way", "knot"] "way_on" (defScope st_way_on) f cdv A outer s H E).A (cxOf (L2.CX P w) P w K mg base ["tree", "one", "other", "steps", "way", "knot"] "way_on" (defScope st_way_on) f cdv A outer s H E).env (cxOf (L2.CX P w) P w K mg base ["tree", "one", "other", "steps", "way", "knot"] "way_on" (defScope st_way_on) f cdv A outer s H E).xe := passes_of rfl
    refine ⟨_, (pss_cons (ps_if (PW.pt (pw_or (pt_not (pt_val (pe_call G_is_knot (hr.mono (by decide)) (by rfl) g_is_knot F_is_knot.kp b_is_knot .nil pass0 (pa_cons (pv 0) (pa_cons (pv 1) pa_nil))))) (pw_or1 (pt_not (pt_val (pe_call G_is_knot (hr.mono (by decide)) (by rfl) g_is_knot F_is_knot.kp b_is_knot .nil pass0 (pa_cons (pv 0) (pa_cons (pv 2) pa_nil))))))))
      (pss_one (ps_raise rfl tk (Hid.pmk_none E_NoKnot.oex E_NoKnot.ini hI.2.1 hI.2.2 (hr.mono (by decide)) hI.1 .nil pass0 (by rfl) E_NoKnot.glob (pa_cons pe_str pa_nil))))
      pss_nil)
      (pss_cons (ps_set (i := 3) sc_way_on.nd rfl (.inl rfl) (pe_call G_steps_towards (hr.mono (by decide)) (by rfl) g_steps_towards F_steps_towards.kp b_steps_towards .nil pass0 (pa_cons (pe_ix ix_tup (pv 0) pe_int (fun _ _ => rfl)) (pa_cons (pv 2) pa_nil))))
      (pss_cons (ps_set (i := 4) sc_way_on.nd rfl (.inl rfl) (pe_lst pa_nil))
      (pss_cons (ps_set (i := 5) sc_way_on.nd rfl (.inl rfl) (pv 1))
      (pss_cons (ps_while psO (pt_cmpR op_notN (pv 5) pe_non (nomark _)) (pss_cons (ps_expr (pe_bm PySem.F.plainAttrs_list PySem.F.slot_list_append PySem.F.type_list_append mt_append (pv 4) (pa_cons (pv 5) pa_nil)))
      (pss_one (ps_set (i := 5) sc_way_on.nd rfl (.inl rfl) (pe_dget (Hid.u1 hr) (pv 3) (pv 5) (fun _ _ => rfl))))))
      (pss_one (ps_ret (pv 4)))))))), ?_⟩
    refine q_when (b := !(o1.any fun k => decide (k ∈ Kl)) || !(o2.any fun k => decide (k ∈ Kl))) (et_or (et_not (et_B (ev_call (ea_cons (ev_var rfl) (ea_cons (ev_var rfl) ea_nil)) fun G g Q1 q1 E1 => ⟨tr, v1, o1, Kl, T, rfl, hT.tk (Tk.ex g), h1.ex g, q1⟩))) fun _ => et_not (et_B (ev_call (ea_cons (ev_var rfl) (ea_cons (ev_var rfl) ea_nil)) fun G g Q1 q1 E1 => ⟨tr, v2, o2, Kl, T, rfl, hT.tk (Tk.ex g), h2.ex g, q1⟩))) (fun _ H1 e1 => ?_) (fun hb H1 e1 => ?_)
    · exact ⟨by show 1 ≤ 1000; decide, fun a na => ⟨a, c_NoKnot, _, rfl, E_NoKnot.oex, upd_same, rfl, upd_same, hE _ (e1.trans (ex_del na))⟩⟩
    · exfalso
      rcases hn with z | z <;> rw [z] at hb <;> simp at hb
def sp__law_other (K : PySem.W.Frag) (ts : List Addr) (c_NoCall : Addr) (c_NoHalf : Addr) (c_NoLikeness : Addr) (c_NoOrder : Addr) (c_NoUndo : Addr) (c_NoFit : Addr) (c_NoName : Addr) (c_NoNumber : Addr) (c_NoParting : Addr) (c_NoPlace : Addr) (c_NoRoom : Addr) (c_NoRow : Addr) (c_NoRule : Addr) (c_NoText : Addr) : Addr × Obj → Sp := fun p vs H Q _ => ∃ (cls : Value) (d : Option Addr) (D : Addr), vs = [.ref p.1] ∧ Zc cls d p.2 ∧ (∃ us, p.2.data = .fields us) ∧ cls = .ref D ∧ ExcC K D ∧ DxOk d H ∧ PySem.W.kitAny K (.ref D) [.ref c_NoCall, .ref c_NoHalf, .ref c_NoLikeness, .ref c_NoOrder, .ref c_NoUndo] = some false ∧ PySem.W.kitAny K (.ref D) [.ref c_NoFit, .ref c_NoName, .ref c_NoNumber, .ref c_NoParting, .ref c_NoPlace, .ref c_NoRoom, .ref c_NoRow, .ref c_NoRule, .ref c_NoText] = some false ∧ RetV (.bl false) H Q
theorem ok__law_other {ts : List Addr} {c_NoUndo : Addr} {c_NoOrder : Addr} {c_NoLikeness : Addr} {c_NoHalf : Addr} {c_NoCall : Addr} {c_NoText : Addr} {c_NoRule : Addr} {c_NoRow : Addr} {c_NoRoom : Addr} {c_NoPlace : Addr} {c_NoParting : Addr} {c_NoNumber : Addr} {c_NoName : Addr} {c_NoFit : Addr} (D : Df K mg "_law_other" st__law_other ["_law_e"]) (m_isinstance : mg "isinstance" = none) (gc_NoUndo : mg "NoUndo" = some (.ref c_NoUndo)) (gc_NoOrder : mg "NoOrder" = some (.ref c_NoOrder)) (gc_NoLikeness : mg "NoLikeness" = some (.ref c_NoLikeness)) (gc_NoHalf : mg "NoHalf" = some (.ref c_NoHalf)) (gc_NoCall : mg "NoCall" = some (.ref c_NoCall)) (gc_NoText : mg "NoText" = some (.ref c_NoText)) (gc_NoRule : mg "NoRule" = some (.ref c_NoRule)) (gc_NoRow : mg "NoRow" = some (.ref c_NoRow)) (gc_NoRoom : mg "NoRoom" = some (.ref c_NoRoom)) (gc_NoPlace : mg "NoPlace" = some (.ref c_NoPlace)) (gc_NoParting : mg "NoParting" = some (.ref c_NoParting)) (gc_NoNumber : mg "NoNumber" = some (.ref c_NoNumber)) (gc_NoName : mg "NoName" = some (.ref c_NoName)) (gc_NoFit : mg "NoFit" = some (.ref c_NoFit)) : AtP P w K mg base "_law_other" st__law_other 1 ["_law_e"] (sp__law_other K ts c_NoCall c_NoHalf c_NoLikeness c_NoOrder c_NoUndo c_NoFit c_NoName c_NoNumber c_NoParting c_NoPlace c_NoRoom c_NoRow c_NoRule c_NoText) := by
  obtain ⟨f, fd, F, b, g⟩ := D
  refine ⟨f, fd, F, b, g, okP F sc__law_other (fun p vs H Q h => ?_) (fun cdv A outer s H vs Q p hr h => ?_)⟩
  · obtain ⟨cls, d, D, rfl, _⟩ := h
    rfl
  · obtain ⟨a, oe⟩ := p
    obtain ⟨cls, d, D, rfl, hz, hf, hc, C, hd, k5, k9, q⟩ := h
    refine ⟨_, (pss_cons (ps_if (pt_val (pe_callB (show CallR _ (.builtin "isinstance") (Hid.rIsPT K cls d a) from Hid.call_isPT (List.mem_singleton.mpr rfl) hz hf) (by rfl) m_isinstance (by decide +kernel) (pa_cons (pv 0) (pa_cons (pe_tup (pa_cons (pe_glob (v := .ref c_NoCall) (by rfl) gc_NoCall rfl) (pa_cons (pe_glob (v := .ref c_NoHalf) (by rfl) gc_NoHalf rfl) (pa_cons (pe_glob (v := .ref c_NoLikeness) (by rfl) gc_NoLikeness rfl) (pa_cons (pe_glob (v := .ref c_NoOrder) (by rfl) gc_NoOrder rfl) (pa_cons (pe_glob (v := .ref c_NoUndo) (by rfl) gc_NoUndo rfl) pa_nil)))))) pa_nil))))
      (pss_one (ps_ret pe_bl))
      pss_nil)
      (pss_one (ps_ret (pe_callB (show CallR _ (.builtin "isinstance") (Hid.rIsPT K cls d a) from Hid.call_isPT (List.mem_singleton.mpr rfl) hz hf) (by rfl) m_isinstance (by decide +kernel) (pa_cons (pv 0) (pa_cons (pe_tup (pa_cons (pe_glob (v := .ref c_NoFit) (by rfl) gc_NoFit rfl) (pa_cons (pe_glob (v := .ref c_NoName) (by rfl) gc_NoName rfl) (pa_cons (pe_glob (v := .ref c_NoNumber) (by rfl) gc_NoNumber rfl) (pa_cons (pe_glob (v := .ref c_NoParting) (by rfl) gc_NoParting rfl) (pa_cons (pe_glob (v := .ref c_NoPlace) (by rfl) gc_NoPlace rfl) (pa_cons (pe_glob (v := .ref c_NoRoom) (by rfl) gc_NoRoom rfl) (pa_cons (pe_glob (v := .ref c_NoRow) (by rfl) gc_NoRow rfl) (pa_cons (pe_glob (v := .ref c_NoRule) (by rfl) gc_NoRule rfl) (pa_cons (pe_glob (v := .ref c_NoText) (by rfl) gc_NoText rfl) pa_nil)))))))))) pa_nil)))))), ?_⟩
    subst hc
    refine q_when (b := false) (et_B (ev_isPT (cs := [c_NoCall, c_NoHalf, c_NoLikeness, c_NoOrder, c_NoUndo]) (ev_var rfl) (ea_cons ev_c (ea_cons ev_c (ea_cons ev_c (ea_cons ev_c (ea_cons ev_c ea_nil))))) (by show 5 ≤ 100; decide) C hd k5)) (fun hb H1 e1 => absurd hb (by decide)) (fun _ H1 e1 => ?_)
    exact s_ret (ev_isPT (cs := [c_NoFit, c_NoName, c_NoNumber, c_NoParting, c_NoPlace, c_NoRoom, c_NoRow, c_NoRule, c_NoText]) (ev_var rfl) (ea_cons ev_c (ea_cons ev_c (ea_cons ev_c (ea_cons ev_c (ea_cons ev_c (ea_cons ev_c (ea_cons ev_c (ea_cons ev_c (ea_cons ev_c ea_nil))))))))) (by show 9 ≤ 100; decide) C (hd.ex e1) k9) fun H2 e2 => q H2 (e1.trans e2)
def sp__law_told (K : PySem.W.Frag) (ts : List Addr) : Sp := fun vs H Q _ => ∃ (a : Addr) (S : List (List Nat)) (n : Nat), vs = [.ref a] ∧ SqT K H a (S.map fun h => V.str (tx h)) ∧ (S ≠ [] ∧ S.length < 1000 ∧ (1 ≤ n ∧ n ≤ 8) ∧ ∀ h ∈ S, HalfN n h) ∧ TB ts H ∧ (∀ (v : V) (t : Addr) (H2 : Hp), Ex H H2 → HS S n → TrA H2 v (knL S n) (tiL S (S.getD 0 []) (knL S n)) → H2 t = some (.tup [.str "told", v]) → Q (.ref t) H2) ∧ ∀ (z : Nat × Nat × List Str) (v : V) (t : Addr) (H2 : Hp), Ex H H2 → IsCross (four (srt (S.map tx))) n (some z) → ResX H2 v (some z) → H2 t = some (.tup [.str "refused", v]) → Q (.ref t) H2
theorem ok__law_told {ts : List Addr} {c_HalvesError : Addr} {c_NoKnot : Addr} {c_NoTree : Addr} {c_NoCall : Addr} {c_NoHalf : Addr} {c_NoLikeness : Addr} {c_NoOrder : Addr} {c_NoUndo : Addr} {c_NoFit : Addr} {c_NoName : Addr} {c_NoNumber : Addr} {c_NoParting : Addr} {c_NoPlace : Addr} {c_NoRoom : Addr} {c_NoRow : Addr} {c_NoRule : Addr} {c_NoText : Addr} (D : Df K mg "_law_told" st__law_told ["_law_halves_here"]) (m_isinstance : mg "isinstance" = none) (m_ValueError : mg "ValueError" = none) (gc_HalvesError : mg "HalvesError" = some (.ref c_HalvesError)) (gc_NoKnot : mg "NoKnot" = some (.ref c_NoKnot)) (gc_NoTree : mg "NoTree" = some (.ref c_NoTree)) (XF_NoTree : L2.XfC K c_NoTree ∧ PySem.W.findIn K (.ref c_NoTree) "crossing" = some none) (xc_NoTree : ExcC K c_NoTree) (xm_NoTree : PySem.W.exmOne K (.ref c_NoTree) (.ref c_HalvesError) = some true) (k5_NoTree : PySem.W.kitAny K (.ref c_NoTree) [.ref c_NoCall, .ref c_NoHalf, .ref c_NoLikeness, .ref c_NoOrder, .ref c_NoUndo] = some false) (k9_NoTree : PySem.W.kitAny K (.ref c_NoTree) [.ref c_NoFit, .ref c_NoName, .ref c_NoNumber, .ref c_NoParting, .ref c_NoPlace, .ref c_NoRoom, .ref c_NoRow, .ref c_NoRule, .ref c_NoText] = some false) (kv_NoTree : PySem.W.kitOne K (.ref c_NoTree) (.type "ValueError") = some true) (k_NoTree_NoTree : PySem.W.kitOne K (.ref c_NoTree) (.ref c_NoTree) = some true) (k_NoTree_NoKnot : PySem.W.kitOne K (.ref c_NoTree) (.ref c_NoKnot) = some false) (A_tree_of : AtX P w K mg base "tree_of" st_tree_of 5 ["halves"] (sp_tree_of K ts c_NoTree)) (A__law_other : AtP P w K mg base "_law_other" st__law_other 1 ["_law_e"] (sp__law_other K ts c_NoCall c_NoHalf c_NoLikeness c_NoOrder c_NoUndo c_NoFit c_NoName c_NoNumber c_NoParting c_NoPlace c_NoRoom c_NoRow c_NoRule c_NoText)) : At P w K mg base "_law_told" st__law_told 6 ["_law_halves_here"] (sp__law_told K ts) := by
  obtain ⟨f, fd, F, b, g⟩ := D
  obtain ⟨f_tree_of, fd_tree_of, F_tree_of, b_tree_of, g_tree_of, G_tree_of⟩ := A_tree_of
  obtain ⟨f__law_other, fd__law_other, F__law_other, b__law_other, g__law_other, G__law_other⟩ := A__law_other
  refine ⟨f, fd, F, b, g, F.ok sc__law_told (fun vs H Q E h => ?_) (fun cdv A outer s H vs Q E hr h => ?_)⟩
  · obtain ⟨a, S, n, rfl, _⟩ := h
    rfl
  · obtain ⟨a, S, n, rfl, hS, hok, hT, q, q2⟩ := h
    refine ⟨_, (pss_one (L2.ps_try_as (i := 1) rfl rfl sc__law_told.nd rfl rfl ⟨by rfl, by decide, .inl gc_HalvesError⟩ takes0 (fun W pn xe tkW psW => (pss_one (ps_ret (pe_tup (pa_cons pe_str (pa_cons (pe_callS G_tree_of (hr.mono (by decide)) (by rfl) g_tree_of F_tree_of.kp b_tree_of (fun σ => passAt tkW σ) (pa_cons (pv 0) pa_nil)) pa_nil)))))) (fun a oe cls d pn hz hf => (pss_cons (ps_if (PW.pt (pw_or (pt_not (pt_val (pe_callB (show CallR _ (.builtin "isinstance") (Hid.rIsP K cls d a) from Hid.call_isP List.mem_cons_self hz hf) (by rfl) m_isinstance (by decide +kernel) (pa_cons (pv 1) (pa_cons (pe_glob (v := .ref c_NoTree) (by rfl) gc_NoTree rfl) pa_nil))))) (pw_or (pt_val (pe_callB (show CallR _ (.builtin "isinstance") (Hid.rIsP K cls d a) from Hid.call_isP List.mem_cons_self hz hf) (by rfl) m_isinstance (by decide +kernel) (pa_cons (pv 1) (pa_cons (pe_glob (v := .ref c_NoKnot) (by rfl) gc_NoKnot rfl) pa_nil)))) (pw_or (pt_not (pt_val (pe_callB (show CallR _ (.builtin "isinstance") (Hid.rIsP K cls d a) from Hid.call_isP List.mem_cons_self hz hf) (by rfl) m_isinstance (by decide +kernel) (pa_cons (pv 1) (pa_cons (pe_bltn (v := .ty "ValueError") (by rfl) m_ValueError (by decide +kernel) rfl) pa_nil))))) (pw_or1 (pt_val (Hid.pe_callP G__law_other (Hid.rmH (hr.mono (by decide))) List.mem_cons_self hz hf (by rfl) g__law_other F__law_other.kp b__law_other (pa_cons (pv 1) pa_nil))))))))
      (pss_one (ps_ret (pe_tup (pa_cons pe_str (pa_cons pe_non pa_nil)))))
      pss_nil)
      (pss_one (ps_ret (pe_tup (pa_cons pe_str (pa_cons (Hid.pe_fldP XF_NoTree.1 XF_NoTree.2 List.mem_cons_self hz hf (pv 1)) pa_nil))))))))), ?_⟩
    refine ⟨_, rfl, a, S, n, rfl, hS, hok, hT, fun v H2 e2 hs htr => ⟨by show 2 ≤ sizeLine; decide, fun t nt => q v t _ (e2.trans (Ex.new nt)) hs (htr.tk (Tk.ex (Ex.new nt))) upd_same⟩, fun z v d H2 e2 hcr hv hd => ⟨true, xm_NoTree, fun _ p np => ?_, fun h => absurd h (by decide)⟩⟩
    have hD : DxOk (some d) H2 := .inr ⟨d, _, rfl, hd⟩
    refine q_when (b := false) (et_is (et_or (a := false) (b := false) (et_is (et_not (et_B (ev_isPr (ev_var rfl) xc_NoTree hD k_NoTree_NoTree))) rfl) fun _ => et_is (et_or (a := false) (b := false) (et_B (ev_isPr (ev_var rfl) xc_NoTree hD k_NoTree_NoKnot)) fun _ => et_is (et_or (a := false) (b := false) (et_is (et_not (et_B (ev_isPt (ev_var rfl) xc_NoTree hD kv_NoTree))) rfl) fun _ => et_B (ev_callP (z := .bl false) (ea_cons (ev_var rfl) ea_nil) fun G g oe hz hf Q1 q1 => ⟨_, _, c_NoTree, rfl, hz, hf, rfl, xc_NoTree, hD.ex g, k5_NoTree, k9_NoTree, q1⟩)) rfl) rfl) rfl) (fun hb H3 e3 => absurd hb (by decide)) (fun _ H3 e3 => ?_)
    exact s_retU (eu_tup (ea_cons ev_c (ea_cons (ev_fld (ev_var rfl) (e3 _ _ hd)) ea_nil)) (by show 2 ≤ 100000; decide)) fun t H4 nt e4 h4 => q2 z v t H4 (e2.trans (e3.trans e4)) hcr (ResX.ex (e3.trans e4) hv) h4
def sp__law_no_way (K : PySem.W.Frag) (ts : List Addr) : Sp := fun vs H Q _ => ∃ (tr v1 v2 : V) (o1 o2 : Option (List Nat)) (Kl : List (List Nat)) (T : List Tp), vs = [tr, v1, v2] ∧ TrA H tr Kl T ∧ Th K H v1 o1 ∧ Th K H v2 o2 ∧ ((o1.any fun k => decide (k ∈ Kl)) = false ∨ (o2.any fun k => decide (k ∈ Kl)) = false) ∧ RetV (.bl true) H Q
theorem ok__law_no_way {ts : List Addr} {c_HalvesError : Addr} {c_NoTree : Addr} {c_NoKnot : Addr} {c_NoCall : Addr} {c_NoHalf : Addr} {c_NoLikeness : Addr} {c_NoOrder : Addr} {c_NoUndo : Addr} {c_NoFit : Addr} {c_NoName : Addr} {c_NoNumber : Addr} {c_NoParting : Addr} {c_NoPlace : Addr} {c_NoRoom : Addr} {c_NoRow : Addr} {c_NoRule : Addr} {c_NoText : Addr} (D : Df K mg "_law_no_way" st__law_no_way ["_law_tree", "_law_one", "_law_other_here"]) (m_isinstance : mg "isinstance" = none) (m_ValueError : mg "ValueError" = none) (gc_HalvesError : mg "HalvesError" = some (.ref c_HalvesError)) (gc_NoTree : mg "NoTree" = some (.ref c_NoTree)) (gc_NoKnot : mg "NoKnot" = some (.ref c_NoKnot)) (xc_NoKnot : ExcC K c_NoKnot) (xm_NoKnot : PySem.W.exmOne K (.ref c_NoKnot) (.ref c_HalvesError) = some true) (k5_NoKnot : PySem.W.kitAny K (.ref c_NoKnot) [.ref c_NoCall, .ref c_NoHalf, .ref c_NoLikeness, .ref c_NoOrder, .ref c_NoUndo] = some false) (k9_NoKnot : PySem.W.kitAny K (.ref c_NoKnot) [.ref c_NoFit, .ref c_NoName, .ref c_NoNumber, .ref c_NoParting, .ref c_NoPlace, .ref c_NoRoom, .ref c_NoRow, .ref c_NoRule, .ref c_NoText] = some false) (kv_NoKnot : PySem.W.kitOne K (.ref c_NoKnot) (.type "ValueError") = some true) (k_NoKnot_NoKnot : PySem.W.kitOne K (.ref c_NoKnot) (.ref c_NoKnot) = some true) (k_NoKnot_NoTree : PySem.W.kitOne K (.ref c_NoKnot) (.ref c_NoTree) = some false) (A_way_on : AtX P w K mg base "way_on" st_way_on 3 ["tree", "one", "other"] (sp_way_on K ts c_NoKnot)) (A__law_other : AtP P w K mg base "_law_other" st__law_other 1 ["_law_e"] (sp__law_other K ts c_NoCall c_NoHalf c_NoLikeness c_NoOrder c_NoUndo c_NoFit c_NoName c_NoNumber c_NoParting c_NoPlace c_NoRoom c_NoRow c_NoRule c_NoText)) : At P w K mg base "_law_no_way" st__law_no_way 4 ["_law_tree", "_law_one", "_law_other_here"] (sp__law_no_way K ts) := by
  obtain ⟨f, fd, F, b, g⟩ := D
  obtain ⟨f_way_on, fd_way_on, F_way_on, b_way_on, g_way_on, G_way_on⟩ := A_way_on
  obtain ⟨f__law_other, fd__law_other, F__law_other, b__law_other, g__law_other, G__law_other⟩ := A__law_other
  refine ⟨f, fd, F, b, g, F.ok sc__law_no_way (fun vs H Q E h => ?_) (fun cdv A outer s H vs Q E hr h => ?_)⟩
  · obtain ⟨tr, v1, v2, o1, o2, Kl, T, rfl, _⟩ := h
    rfl
  · obtain ⟨tr, v1, v2, o1, o2, Kl, T, rfl, hT, h1, h2, hn, q⟩ := h
    refine ⟨_, (pss_cons (L2.ps_try_as (i := 3) rfl rfl sc__law_no_way.nd rfl rfl ⟨by rfl, by decide, .inl gc_HalvesError⟩ takes0 (fun W pn xe tkW psW => (pss_one (ps_expr (pe_callS G_way_on (hr.mono (by decide)) (by rfl) g_way_on F_way_on.kp b_way_on (fun σ => passAt tkW σ) (pa_cons (pv 0) (pa_cons (pv 1) (pa_cons (pv 2) pa_nil))))))) (fun a oe cls d pn hz hf => (pss_one (ps_ret (pe_and (pe_callB (show CallR _ (.builtin "isinstance") (Hid.rIsP K cls d a) from Hid.call_isP List.mem_cons_self hz hf) (by rfl) m_isinstance (by decide +kernel) (pa_cons (pv 3) (pa_cons (pe_glob (v := .ref c_NoKnot) (by rfl) gc_NoKnot rfl) pa_nil))) (pe_and (pe_callB (show CallR _ (.builtin "isinstance") (Hid.rIsP K cls d a) from Hid.call_isP List.mem_cons_self hz hf) (by rfl) m_isinstance (by decide +kernel) (pa_cons (pv 3) (pa_cons (pe_bltn (v := .ty "ValueError") (by rfl) m_ValueError (by decide +kernel) rfl) pa_nil))) (pe_and (pe_not (pe_callB (show CallR _ (.builtin "isinstance") (Hid.rIsP K cls d a) from Hid.call_isP List.mem_cons_self hz hf) (by rfl) m_isinstance (by decide +kernel) (pa_cons (pv 3) (pa_cons (pe_glob (v := .ref c_NoTree) (by rfl) gc_NoTree rfl) pa_nil)))) (pe_one (pe_not (Hid.pe_callP G__law_other (Hid.rmH (hr.mono (by decide))) List.mem_cons_self hz hf (by rfl) g__law_other F__law_other.kp b__law_other (pa_cons (pv 3) pa_nil)))))))))))
      (pss_one (ps_ret pe_bl))), ?_⟩
    refine ⟨_, rfl, _, rfl, _, rfl, tr, v1, v2, o1, o2, Kl, T, rfl, hT, h1, h2, hn, fun H2 e2 => ⟨true, xm_NoKnot, fun _ p np => ?_, fun h => absurd h (by decide)⟩⟩
    have hD : DxOk none H2 := .inl rfl
    exact s_ret (v := .bl true) (ev_is (ev_andV (a := true) (b := true) (ev_isPr (ev_var rfl) xc_NoKnot hD k_NoKnot_NoKnot) fun _ => ev_is (ev_andV (a := true) (b := true) (ev_isPt (ev_var rfl) xc_NoKnot hD kv_NoKnot) fun _ => ev_is (ev_andV (a := true) (b := true) (ev_is (ev_notV (ev_isPr (ev_var rfl) xc_NoKnot hD k_NoKnot_NoTree)) rfl) fun _ => ev_is (ev_notV (ev_callP (z := .bl false) (ea_cons (ev_var rfl) ea_nil) fun G g oe hz hf Q1 q1 => ⟨_, _, c_NoKnot, rfl, hz, hf, rfl, xc_NoKnot, hD.ex g, k5_NoKnot, k9_NoKnot, q1⟩)) rfl) rfl) rfl) rfl) fun H3 e3 => q H3 (e2.trans e3)
end
end Hid

namespace Hid
open PySem PySem.Spec PyProof.Rows L2 Evl
/-- all of a list keep a word -/
def AllB (m : Nat) (W : V → Hp → Prop) (vs : List V) (H : Hp) : Prop := vs.length = m ∧ ∀ v ∈ vs, W v H
/-- no knot, of any kind -/
def NKn (K : PySem.W.Frag) (Kl : List (List Nat)) (v : V) (H : Hp) : Prop := ∃ o, Th K H v o ∧ (o.any fun k => decide (k ∈ Kl)) = false
theorem NKn.ex {K : PySem.W.Frag} {Kl : List (List Nat)} {v : V} {H H' : Hp} (h : NKn K Kl v H) (e : Ex H H') : NKn K Kl v H' := let ⟨o, a, b⟩ := h; ⟨o, a.ex e, b⟩
theorem no_kn {S : List (List Nat)} {n : Nat} {z : List Nat} (h : z.length ≠ n ∨ ∃ c ∈ z, ¬ NY c) : ((some z).any fun k => decide (k ∈ knL S n)) = false := by
  refine decide_eq_false fun hk => ?_
  have hh := (knL_iff.mp hk).1
  rcases h with h | ⟨c, hc, h⟩
  · exact h hh.1
  · exact h (hh.2 c hc)
section
variable {K : PySem.W.Frag} {σ : L2.St} {H : Hp} {ta tb te tl ti : TE} {ts : TA} {D : Ends} {tu tz : L2.TS} {P : V → Hp → Prop}
theorem ab_nil : EvPs tNil σ H (AllB 0 P) := fun H1 _ Q q => q [] H1 (Ex.refl _) ⟨rfl, fun _ h => by cases h⟩
theorem ab_cons {n : Nat} (m : ∀ v H H', Ex H H' → P v H → P v H') (h : EvP ta σ H P) (hr : EvPs ts σ H (AllB n P)) : EvPs (tCons ta ts) σ H (AllB (n + 1) P) := fun H1 e Q q =>
  h H1 e _ fun v H2 e2 hv => hr H2 (e.trans e2) _ fun vs H3 e3 hvs => q _ H3 (e2.trans e3) ⟨congrArg (· + 1) hvs.1, fun x hx => by
    rcases List.mem_cons.mp hx with z | z
    · rw [z]; exact m v H2 H3 e3 hv
    · exact hvs.2 x z⟩
theorem nk_ev {Kl : List (List Nat)} {v : V} {o : Option (List Nat)} (h : Ev te σ H v) (ht : Th K H v o) (hn : (o.any fun k => decide (k ∈ Kl)) = false) : EvP te σ H (NKn K Kl) := fun H1 e Q q => h H1 e _ fun H2 e2 => q v H2 e2 ⟨o, ht.ex (e.trans e2), hn⟩
theorem nk_lst {Kl : List (List Nat)} {xs : List V} (h : EvL te σ H xs) : EvP te σ H (NKn K Kl) := fun H1 e Q q => h H1 e _ fun p H2 np e2 hp => q (.ref p) H2 e2 ⟨none, th_lst hp, rfl⟩
theorem nk_tup {Kl : List (List Nat)} {xs : List V} (h : EvU te σ H xs) : EvP te σ H (NKn K Kl) := fun H1 e Q q => h H1 e _ fun p H2 np e2 hp => q (.ref p) H2 e2 ⟨none, th_tup hp, rfl⟩
theorem s_forPs {ts : TA} {j : Nat} {R : List V → Hp → Prop} (h : EvPs ts σ H R) (hlen : ∀ vs H2, R vs H2 → vs.length ≤ 100000) (Pv : Addr → List V → Nat → L2.St → Hp → Prop) (h0 : ∀ p vs H2, Ex H H2 → R vs H2 → H2 p = none → Pv p vs 0 σ (upd H2 p (.lst vs)))
    (hl : ∀ p vs i σ' H', i ≤ vs.length → Pv p vs i σ' H' → SqL K H' p vs) (hs : ∀ p vs i x σ' H', vs[i]? = some x → Pv p vs i σ' H' → tu { D with nx := Pv p vs (i + 1), ct := Pv p vs (i + 1), bk := D.nx } (σ'.set j (some x)) H')
    (hd : ∀ p vs σ' H', Pv p vs vs.length σ' H' → D.nx σ' H') : tFor (iList K (tLst ts)) (gName j) tu D σ H :=
  h H (Ex.refl H) _ fun vs H2 e2 hv => ⟨sz_of (hlen vs H2 hv), fun p hp => ⟨p, rfl, ⟨vs, sq_of upd_same⟩, for_list (Pv p vs) (h0 p vs H2 e2 hv hp) (hl p vs) (hs p vs) (hd p vs)⟩⟩
theorem ep_cat1 {xs : List V} {C : V → Prop} (ha : EvP ta σ H (TupV K xs)) (hb : EvP te σ H (fun v _ => C v)) (hl : xs.length + 1 ≤ 100000) : EvP (tOp (rCatA K) ta (tTup (tCons te tNil))) σ H (fun v H2 => ∃ y, C y ∧ TupV K (xs ++ [y]) v H2) := fun H1 e Q q =>
  ha H1 e _ fun v H2 e2 ⟨a, ea, sa⟩ => hb H2 (e.trans e2) _ fun y H3 e3 hy => ⟨by show 1 ≤ sizeLine; decide, fun p2 np2 => by
    subst ea
    refine ⟨a, p2, xs, [y], rfl, rfl, ex_t (e3.trans (Ex.new np2)) sa, st_of upd_same, sz_of hl, fun hx => ?_, (fun _ hy' => by cases hy'), fun _ _ p hp => q _ _ ((e2.trans (e3.trans (Ex.new np2))).trans (Ex.new hp)) ⟨y, hy, p, rfl, st_of upd_same⟩⟩
    subst hx
    exact q _ _ (e2.trans (e3.trans (Ex.new np2))) ⟨y, hy, p2, rfl, st_of upd_same⟩⟩
end
theorem sh_ref {rs : List Str} {m m2 : Nat} (hr : ∀ h ∈ rs, HalfS m2 h) {z : Nat × Nat × List Str} (h : IsCross (four rs) m (some z)) : SeqAt.shaped (.tuple [.str "refused", dX (some z)]) = true := by
  have a := dX_shaped hr h
  obtain ⟨i, j, F⟩ := z
  obtain ⟨x, y, u, v, rfl⟩ := four_shape h.2.2.1
  have b : PyData.canLay0 (dX (some (i, j, [x, y, u, v]))) = true := by
    unfold SeqAt.shaped at a
    exact (Bool.and_eq_true_iff.mp a).1
  have c : PyData.canLay0 (.str "refused") = true := by decide +kernel
  unfold SeqAt.shaped
  rw [Bool.and_eq_true]
  refine ⟨?_, ?_⟩
  · show (PyData.canLay0 (.str "refused") && (PyData.canLay0 (dX (some (i, j, [x, y, u, v]))) && true)) = true
    rw [b, c]
    rfl
  · simp [dX, PyData.depth, PyData.depthAll]
section
variable {P : Program} {w : World} {K : PySem.W.Frag} {mg : Str → Option Value} {base : Heap}
def sp__law_ways_refused (K : PySem.W.Frag) (ts : List Addr) : Sp := fun vs H Q _ => ∃ (tr : V) (S : List (List Nat)) (n : Nat) (x : Int), vs = [tr, .int x] ∧ TrA H tr (knL S n) (tiL S (S.getD 0 []) (knL S n)) ∧ HS S n ∧ (1 ≤ n ∧ n ≤ 8) ∧ RetV (.bl true) H Q
theorem ok__law_ways_refused {ts : List Addr} (D : Df K mg "_law_ways_refused" st__law_ways_refused ["_law_tree", "_law_x"]) (m_len : mg "len" = none) (A__law_no_way : At P w K mg base "_law_no_way" st__law_no_way 4 ["_law_tree", "_law_one", "_law_other_here"] (sp__law_no_way K ts)) : At P w K mg base "_law_ways_refused" st__law_ways_refused 5 ["_law_tree", "_law_x"] (sp__law_ways_refused K ts) := by
  obtain ⟨f, fd, F, b, g⟩ := D
  obtain ⟨f__law_no_way, fd__law_no_way, F__law_no_way, b__law_no_way, g__law_no_way, G__law_no_way⟩ := A__law_no_way
  refine ⟨f, fd, F, b, g, F.ok sc__law_ways_refused (fun vs H Q E h => ?_) (fun cdv A outer s H vs Q E hr h => ?_)⟩
  · obtain ⟨tr, S, n, x, rfl, _⟩ := h
    rfl
  · obtain ⟨tr, S, n, x, rfl, hT, hs, ⟨hn1, hn8⟩, q⟩ := h
    refine ⟨_, (pss_cons (ps_set (i := 2) sc__law_ways_refused.nd rfl (.inl rfl) (pe_ix ix_tup (pe_ix ix_tup (pv 0) pe_int (fun _ _ => rfl)) (pe_op op_mod (pv 1) (pe_callB call_len_seq (by rfl) m_len (by decide +kernel) (pa_cons (pe_ix ix_tup (pv 0) pe_int (fun _ _ => rfl)) pa_nil))) (fun _ _ => rfl)))
      (pss_cons (ps_for PassesOwn.never rfl (pi_list (pe_lst (pa_cons pe_non (pa_cons pe_int (pa_cons pe_bl (pa_cons pe_str (pa_cons (pe_op op_add_str (pv 2) pe_str) (pa_cons (L2.pe_upper (pv 2)) (pa_cons (pe_lst (pa_cons (pv 2) pa_nil)) (pa_cons (pe_tup (pa_cons (pv 2) pa_nil)) (pa_cons pe_dnewK (pa_cons (pe_slice sl_str (pv 2) po_none (po_some (pe_un un_neg pe_int))) (pa_cons (pe_op Hid.op_mul_str pe_str (pe_callB call_len_str (by rfl) m_len (by decide +kernel) (pa_cons (pv 2) pa_nil))) pa_nil))))))))))))) (pg_name (i := 3) sc__law_ways_refused.nd rfl (.inl rfl))
      (pss_cons (ps_if (PW.pt (pw_or (pt_not (pt_val (pe_call G__law_no_way (hr.mono (by decide)) (by rfl) g__law_no_way F__law_no_way.kp b__law_no_way .nil pass0 (pa_cons (pv 0) (pa_cons (pv 3) (pa_cons (pv 2) pa_nil)))))) (pw_or1 (pt_not (pt_val (pe_call G__law_no_way (hr.mono (by decide)) (by rfl) g__law_no_way F__law_no_way.kp b__law_no_way .nil pass0 (pa_cons (pv 0) (pa_cons (pv 2) (pa_cons (pv 3) pa_nil)))))))))
      (pss_one (ps_ret pe_bl))
      pss_nil)
      (pss_one (ps_if (pt_not (pt_val (pe_call G__law_no_way (hr.mono (by decide)) (by rfl) g__law_no_way F__law_no_way.kp b__law_no_way .nil pass0 (pa_cons (pv 0) (pa_cons (pv 3) (pa_cons (pv 3) pa_nil))))))
      (pss_one (ps_ret pe_bl))
      pss_nil))))
      (pss_one (ps_ret pe_bl)))), ?_⟩
    have hT' := hT
    obtain ⟨t, bk, bt, us, rfl, ht1, ht2, ht3, hu⟩ := hT
    have h0m := h0_mem hs.ne
    have hkl := knL_256 S hn8
    have hkp : 0 < (knL S n).length := List.length_pos_iff.mpr (List.ne_nil_of_mem (knL_iff.mpr (kn_of hs h0m)))
    obtain ⟨r, hr, hrl⟩ : ∃ r : Nat, x % ((knL S n).length : Int) = (r : Nat) ∧ r < (knL S n).length := ⟨(x % ((knL S n).length : Int)).toNat, by
      have := Int.emod_nonneg x (show ((knL S n).length : Int) ≠ 0 by omega)
      have := Int.emod_lt_of_pos x (show (0 : Int) < (knL S n).length by omega)
      omega⟩
    have kn0 : ∀ {σ : L2.St} {G : Hp}, σ[0]? = some (some (.ref t)) → Ex H G → Ev (tOp (rIxT K) (tVar 0) (tC (.int 0))) σ G (.ref bk) := fun {σ G} s0 g => ev_op (ev_var s0) ev_c (rv_ixT (st_of (g _ _ ht1)) (atI_nat (j := 0) rfl))
    obtain ⟨k, hk⟩ : ∃ k, k = (knL S n)[r] := ⟨_, rfl⟩
    have hkm : k ∈ knL S n := by rw [hk]; exact List.getElem_mem hrl
    have hkn := (knL_iff.mp hkm).1
    have hkl2 := hkn.1
    refine q_asg (v := .str (tx k)) (ev_op (kn0 rfl (Ex.refl _)) (ev_is (ev_op (ev_var rfl) (ev_lenT (kn0 rfl (Ex.refl _)) (st_of ht2)) (rv_I (by show (0 : Int) < _; rw [List.length_map]; omega))) (congrArg V.int (by rw [List.length_map]; exact hr))) (rv_ixT (st_of ht2) (atI_nat (by rw [List.getElem?_map, List.getElem?_eq_getElem hrl, hk]; rfl)))) fun H1 e1 => ?_
    have mono : ∀ v H H', Ex H H' → NKn K (knL S n) v H → NKn K (knL S n) v H' := fun v H H' e h => h.ex e
    have l8 : (tx k).length ≤ 1000 := by rw [tx_len]; omega
    have hTk : ∀ {G}, Th K G (.str (tx k)) (some k) := fun {G} => th_str k (by omega)
    refine q_forPs (K := K) (R := AllB 11 (NKn K (knL S n))) (ab_cons mono (nk_ev ev_c th_non rfl) (ab_cons mono (nk_ev ev_c (th_int 7) rfl) (ab_cons mono (nk_ev ev_c (th_bl true) rfl) (ab_cons mono (nk_ev (o := some []) ev_c (th_str [] (by decide)) (no_kn (.inl (by show 0 ≠ n; omega))))
      (ab_cons mono (nk_ev (o := some (k ++ [110])) (ev_is (ev_op (ev_var rfl) ev_c (rv_catS l8 (by show 1 ≤ 1000; decide))) (congrArg V.str (tx_sn k 110))) (th_str _ (by rw [List.length_append]; show k.length + 1 ≤ 1000; omega)) (no_kn (.inl (by rw [List.length_append]; show k.length + 1 ≠ n; omega))))
      (ab_cons mono (nk_ev (v := .str (tx (k.map up1))) (o := some (k.map up1)) (fun G g Q1 q1 => ⟨_, rfl, ⟨_, rfl⟩, tx k, rfl, rfl, by rw [tx_len]; omega, by rw [up_tx k fun c hc => by rcases hkn.2 c hc with z | z <;> omega]; exact q1 G (Ex.refl _)⟩) (th_str _ (by rw [List.length_map]; omega)) (no_kn (.inr (by
        obtain ⟨c, k', rfl⟩ : ∃ c k', k = c :: k' := by
          cases k with
          | nil => simp at hkl2; omega
          | cons c k' => exact ⟨c, k', rfl⟩
        refine ⟨up1 c, List.mem_map.mpr ⟨c, List.mem_cons_self, rfl⟩, ?_⟩
        rcases hkn.2 c List.mem_cons_self with z | z <;> rw [z] <;> decide))))
      (ab_cons mono (nk_lst (el_lst (ea_cons (ev_var rfl) ea_nil) (by show 1 ≤ 100000; decide)))
      (ab_cons mono (nk_tup (eu_tup (ea_cons (ev_var rfl) ea_nil) (by show 1 ≤ 100000; decide)))
      (ab_cons mono (fun G g Q1 q1 d nd => q1 (.ref d) _ (Ex.new nd) ⟨none, th_dict upd_same, rfl⟩)
      (ab_cons mono (nk_ev (o := some (k.take (k.length - 1))) (ev_is (ev_slS (ev_var rfl) eo_none (eo_some (ev_un ev_c ru_neg)) (by rw [tx_len]; omega)) (congrArg V.str (cut_end (by omega)))) (th_str _ (by rw [List.length_take]; omega)) (no_kn (.inl (by rw [List.length_take]; omega))))
      (ab_cons mono (nk_ev (o := some (List.replicate n 120)) (ev_is (ev_op ev_c (ev_lenS (ev_var rfl) (by rw [tx_len]; omega)) (rv_val fun Hx ex Qx qx => ⟨_, _, rfl, rfl, by rw [tx_len]; omega, by rw [tx_len]; omega, by show 1 ≤ 1000; decide, qx⟩)) (congrArg V.str ((mul_c 120 _ (by rw [tx_len]; omega)).trans (by rw [tx_len, hkl2, Int.toNat_natCast])))) (th_str _ (by rw [List.length_replicate]; omega)) (no_kn (.inr ⟨120, List.mem_replicate.mpr ⟨by omega, rfl⟩, by decide⟩))) ab_nil))))))))))) (fun vs H2 h => ?_) (fun p vs i σ' H' => ∃ y3 : Option V, σ' = [some (.ref t), some (.int x), some (.str (tx k)), y3] ∧ Ex H H' ∧ H' p = some (.lst vs) ∧ ∀ v ∈ vs, NKn K (knL S n) v H') (fun p vs H2 e2 h np => ⟨_, rfl, e1.trans (e2.trans (Ex.new np)), upd_same, fun v hv => (h.2 v hv).ex (Ex.new np)⟩) (fun p vs i σ' H' _ hP => ?_) (fun p vs i v σ' H2 hx hP => ?_) (fun p vs σ' H2 hP => ?_)
    · rw [h.1]; decide
    · obtain ⟨_, _, _, h2, _⟩ := hP
      exact sq_of h2
    · obtain ⟨y3, rfl, e2, h2, hall⟩ := hP
      have hv := hall v (List.mem_of_getElem? hx)
      obtain ⟨o, ho, hn⟩ := hv
      have nw : ∀ {σ : L2.St} {G : Hp} {v1 v2 : V} {o1 o2 : Option (List Nat)} {i j : Nat}, σ[0]? = some (some (.ref t)) → σ[i]? = some (some v1) → σ[j]? = some (some v2) → Ex H2 G → Th K H2 v1 o1 → Th K H2 v2 o2 → ((o1.any fun k => decide (k ∈ knL S n)) = false ∨ (o2.any fun k => decide (k ∈ knL S n)) = false) → Ev (tCall (sp__law_no_way K ts) [] E0 (tCons (tVar 0) (tCons (tVar i) (tCons (tVar j) tNil)))) σ G (.bl true) := fun {σ G v1 v2 o1 o2 i j} s0 s1 s2 g a b c => ev_call (ea_cons (ev_var s0) (ea_cons (ev_var s1) (ea_cons (ev_var s2) ea_nil))) fun G2 g2 Q1 q1 E1 => ⟨_, v1, v2, o1, o2, _, _, rfl, hT'.tk (Tk.ex (e2.trans (g.trans g2))), a.ex (g.trans g2), b.ex (g.trans g2), c, q1⟩
      refine q_when (b := false) (et_is (et_or (a := false) (b := false) (et_is (et_not (et_B (nw rfl rfl rfl (Ex.refl _) ho hTk (.inl hn)))) rfl) fun _ => et_is (et_not (et_B (nw rfl rfl rfl (Ex.refl _) hTk ho (.inr hn)))) rfl) rfl) (fun hb H3 e3 => absurd hb (by decide)) (fun _ H3 e3 => ?_)
      exact s_when (b := false) (et_is (et_not (et_B (nw rfl rfl rfl e3 ho ho (.inl hn)))) rfl) (fun hb H4 e4 => absurd hb (by decide)) (fun _ H4 e4 => ⟨_, rfl, e2.trans (e3.trans e4), (e3.trans e4) _ _ h2, fun v hv => (hall v hv).ex (e3.trans e4)⟩)
    · obtain ⟨y3, rfl, e2, h2, hall⟩ := hP
      exact s_ret ev_c fun H3 e3 => q H3 (e2.trans e3)
end
end Hid

namespace Hid
open PySem PySem.Spec PyProof.Rows L2 Evl
theorem lst_tx {hs : List Str} : (hs.map fun z => z.cps.toList).map tx = hs := by
  rw [List.map_map]
  exact (List.map_congr_left fun z _ => tx_cps z).trans (List.map_id _)
theorem half_L {n : Nat} {z : Str} (h : HalfS n z) : HalfN n z.cps.toList := ⟨by rw [Array.length_toList]; exact h.1, h.2⟩
/-- half-rows as they are handed about -/
def HsV (K : PySem.W.Frag) (n : Nat) (v : V) (H : Hp) : Prop := ∃ (p : Addr) (S : List (List Nat)), v = .ref p ∧ SqT K H p (S.map fun h => V.str (tx h)) ∧ S ≠ [] ∧ S.length < 1000 ∧ ∀ x ∈ S, HalfN n x
theorem HsV.ex {K : PySem.W.Frag} {n : Nat} {v : V} {H H' : Hp} (h : HsV K n v H) (e : Ex H H') : HsV K n v H' := let ⟨p, S, a, b, c⟩ := h; ⟨p, S, a, ex_t e b, c⟩
section
variable {P : Program} {w : World} {K : PySem.W.Frag} {mg : Str → Option Value} {base : Heap}
def sp_law (K : PySem.W.Frag) (ts : List Addr) : Sp := fun vs H Q _ => ∃ (a : Addr) (ns : List Int), vs = [.ref a] ∧ SqL K H a (ns.map V.int) ∧ ns.length ≤ 63 ∧ TB ts H ∧ RetV (.bl true) H Q
theorem ok_law {ts : List Addr} (D : Df K mg "law" st_law ["_law_script"]) (m_range : mg "range" = none) (m_len : mg "len" = none) (A__law_halves : At P w K mg base "_law_halves" st__law_halves 3 ["_law_script", "_law_at"] (sp__law_halves K ts)) (A__law_numbers : At P w K mg base "_law_numbers" st__law_numbers 1 ["_law_cell_here", "_law_many"] (sp__law_numbers K ts)) (A__law_cell : At P w K mg base "_law_cell" st__law_cell 1 ["_law_script", "_law_k"] (sp__law_cell K ts)) (A__law_flipped : At P w K mg base "_law_flipped" st__law_flipped 1 ["_law_half", "_law_place"] (sp__law_flipped K ts)) (A__law_crossing : At P w K mg base "_law_crossing" st__law_crossing 1 ["_law_halves_here"] (sp__law_crossing K ts)) (A__law_told : At P w K mg base "_law_told" st__law_told 6 ["_law_halves_here"] (sp__law_told K ts)) (A__law_ways_refused : At P w K mg base "_law_ways_refused" st__law_ways_refused 5 ["_law_tree", "_law_x"] (sp__law_ways_refused K ts)) : At P w K mg base "law" st_law 7 ["_law_script"] (sp_law K ts) := by
  obtain ⟨f, fd, F, b, g⟩ := D
  obtain ⟨f__law_halves, fd__law_halves, F__law_halves, b__law_halves, g__law_halves, G__law_halves⟩ := A__law_halves
  obtain ⟨f__law_numbers, fd__law_numbers, F__law_numbers, b__law_numbers, g__law_numbers, G__law_numbers⟩ := A__law_numbers
  obtain ⟨f__law_cell, fd__law_cell, F__law_cell, b__law_cell, g__law_cell, G__law_cell⟩ := A__law_cell
  obtain ⟨f__law_flipped, fd__law_flipped, F__law_flipped, b__law_flipped, g__law_flipped, G__law_flipped⟩ := A__law_flipped
  obtain ⟨f__law_crossing, fd__law_crossing, F__law_crossing, b__law_crossing, g__law_crossing, G__law_crossing⟩ := A__law_crossing
  obtain ⟨f__law_told, fd__law_told, F__law_told, b__law_told, g__law_told, G__law_told⟩ := A__law_told
  obtain ⟨f__law_ways_refused, fd__law_ways_refused, F__law_ways_refused, b__law_ways_refused, g__law_ways_refused, G__law_ways_refused⟩ := A__law_ways_refused
  refine ⟨f, fd, F, b, g, F.ok sc_law (fun vs H Q E h => ?_) (fun cdv A outer s H vs Q E hr h => ?_)⟩
  · obtain ⟨a, ns, rfl, _⟩ := h
    rfl
  · obtain ⟨a, ns, rfl, hS, hl, hTB, q⟩ := h
    refine ⟨_, (pss_cons (ps_for PassesOwn.never rfl (pi_range3 (by rfl) m_range (pa_cons pe_int (pa_cons pe_int (pa_cons pe_int pa_nil)))) (pg_name (i := 1) sc_law.nd rfl (.inl rfl))
      (pss_cons (ps_set (i := 2) sc_law.nd rfl (.inl rfl) (pe_call G__law_halves (hr.mono (by decide)) (by rfl) g__law_halves F__law_halves.kp b__law_halves .nil pass0 (pa_cons (pv 0) (pa_cons (pv 1) pa_nil))))
      (pss_cons (ps_set (i := 3) sc_law.nd rfl (.inl rfl) (pe_ix ix_list (pe_call G__law_numbers (hr.mono (by decide)) (by rfl) g__law_numbers F__law_numbers.kp b__law_numbers .nil pass0 (pa_cons (pe_call G__law_cell (hr.mono (by decide)) (by rfl) g__law_cell F__law_cell.kp b__law_cell .nil pass0 (pa_cons (pv 0) (pa_cons (pv 1) pa_nil))) (pa_cons pe_int pa_nil))) pe_int (fun _ _ => rfl)))
      (pss_one (ps_for PassesOwn.never rfl (pi_list (pe_lst (pa_cons (pv 2) (pa_cons (pe_op op_catA (pv 2) (pe_tup (pa_cons (pe_call G__law_flipped (hr.mono (by decide)) (by rfl) g__law_flipped F__law_flipped.kp b__law_flipped .nil pass0 (pa_cons (pe_ix ix_tup (pv 2) pe_int (fun _ _ => rfl)) (pa_cons (pe_op op_mod (pv 3) (pe_callB call_len_str (by rfl) m_len (by decide +kernel) (pa_cons (pe_ix ix_tup (pv 2) pe_int (fun _ _ => rfl)) pa_nil))) pa_nil))) pa_nil))) pa_nil)))) (pg_name (i := 4) sc_law.nd rfl (.inl rfl))
      (pss_cons (ps_set (i := 5) sc_law.nd rfl (.inl rfl) (pe_call G__law_crossing (hr.mono (by decide)) (by rfl) g__law_crossing F__law_crossing.kp b__law_crossing .nil pass0 (pa_cons (pv 4) pa_nil)))
      (pss_cons (ps_asg (pe_call G__law_told (hr.mono (by decide)) (by rfl) g__law_told F__law_told.kp b__law_told .nil pass0 (pa_cons (pv 4) pa_nil)) (pg_tup (by rfl) (pgs_cons (pg_name (i := 6) sc_law.nd rfl (.inl rfl)) (pgs_cons (pg_name (i := 7) sc_law.nd rfl (.inl rfl)) pgs_nil))))
      (pss_cons (ps_if (PW.pt (pw_and (pt_cmpR op_notN (pv 5) pe_non (nomark _)) (pw_and1 (pt_cmpR (op_neD hr.units) (pe_tup (pa_cons (pv 6) (pa_cons (pv 7) pa_nil))) (pe_tup (pa_cons pe_str (pa_cons (pv 5) pa_nil))) (nomark _)))))
      (pss_one (ps_ret pe_bl))
      pss_nil)
      (pss_one (ps_if (PW.pt (pw_and (pt_cmpR op_isN (pv 5) pe_non (nomark _)) (pw_and1 (PW.pt (pw_or (pt_cmpR op_ne (pv 6) pe_str (nomark _)) (pw_or1 (pt_not (pt_val (pe_call G__law_ways_refused (hr.mono (by decide)) (by rfl) g__law_ways_refused F__law_ways_refused.kp b__law_ways_refused .nil pass0 (pa_cons (pv 7) (pa_cons (pv 3) pa_nil)))))))))))
      (pss_one (ps_ret pe_bl))
      pss_nil))))))))))
      (pss_one (ps_ret pe_bl))), ?_⟩
    refine ⟨0, 9, 3, 3, rfl, ⟨by decide, by decide, by decide, by decide⟩, for_rangeC (lo := 0) (c := 3) (n := 3) (fun i σ' H' => ∃ y1 y2 y3 y4 y5 y6 y7 : Option V, σ' = [some (.ref a), y1, y2, y3, y4, y5, y6, y7] ∧ Ex H H') ⟨_, _, _, _, _, _, _, rfl, Ex.refl _⟩ (fun i σ' H1 hi hP => ?_) (fun σ' H1 hP => ?_)⟩
    · obtain ⟨y1, y2, y3, y4, y5, y6, y7, rfl, e1⟩ := hP
      show tSeq _ _ _ [some (.ref a), some (.int (0 + (i : Nat) * 3)), y2, y3, y4, y5, y6, y7] H1
      obtain ⟨k, hk, hk2⟩ : ∃ k : Int, (0 : Int) + (i : Nat) * 3 = k ∧ (0 ≤ k ∧ k ≤ 900) := ⟨_, rfl, by omega, by omega⟩
      rw [hk]
      refine c_call (ea_cons (ev_var rfl) (ea_cons (ev_var rfl) ea_nil)) fun G1 g1 => ⟨a, ns, k, rfl, ex_l (e1.trans g1) hS, hk2, fun hs n h0 hlen hn1 hn8 hh p H2 hp e2' h2 => ?_⟩
      have e2 : Ex H1 H2 := g1.trans e2'
      have e02 : Ex H H2 := e1.trans e2
      dsimp only [gName]
      refine ⟨_, rfl, _, rfl, a, ns, k, rfl, ex_l e02 hS, by omega, fun c G4 g4 => ⟨c, 5, rfl, by decide, fun xs hxl hxp p4 H4 hp4 g4' h4 => ?_⟩⟩
      have e4 : Ex H2 H4 := g4.trans g4'
      have h24 : H4 p = some (.tup (hs.map V.str)) := e4 _ _ h2
      refine ⟨p4, _, 4, .int xs[4], rfl, rfl, sq_of h4, atI_nat (j := 4) (by rw [List.getElem?_map, List.getElem?_eq_getElem (by omega)]; rfl), ?_⟩
      obtain ⟨y0, yr, rfl⟩ : ∃ y0 yr, hs = y0 :: yr := by
        cases hs with
        | cons y0 yr => exact ⟨y0, yr, rfl⟩
        | nil => exact absurd rfl h0
      have hy0 : HalfS n y0 := hh y0 List.mem_cons_self
      have hlen0 : y0.length = n := hy0.1
      obtain ⟨pc, hpc, hpc2⟩ : ∃ pc : Nat, xs[4] % (n : Int) = (pc : Int) ∧ pc < n := ⟨(xs[4] % (n : Int)).toNat, by
        have := Int.emod_nonneg xs[4] (show (n : Int) ≠ 0 by omega)
        have := Int.emod_lt_of_pos xs[4] (show (0 : Int) < n by omega)
        omega⟩
      have hat : atI ((y0 :: yr).map V.str) (0 : Int) = some (.str y0) := atI_nat (j := 0) rfl
      have hfl : HalfS n (flipH y0 pc) := flip_ok hy0 hpc2
      have mono : ∀ v H H', Ex H H' → HsV K n v H → HsV K n v H' := fun v H H' e h => h.ex e
      have emS : ((y0 :: yr).map fun z => z.cps.toList).map (fun h => V.str (tx h)) = (y0 :: yr).map V.str := by
        have : ((y0 :: yr).map fun z => z.cps.toList).map (fun h => V.str (tx h)) = (((y0 :: yr).map fun z => z.cps.toList).map tx).map V.str := by rw [List.map_map (l := (y0 :: yr).map fun z => z.cps.toList)]; rfl
        rw [this, lst_tx]
      dsimp only [gName]
      refine s_forPs (K := K) (R := AllB 2 (HsV K n)) (ab_cons mono (fun G g Q1 q1 => ⟨_, rfl, q1 (.ref p) G (Ex.refl _) ⟨p, (y0 :: yr).map fun z => z.cps.toList, rfl, by rw [emS]; exact st_of (g _ _ h24), by simp, by rw [List.length_map]; omega, fun x hx => by obtain ⟨z, hz, rfl⟩ := List.mem_map.mp hx; exact half_L (hh z hz)⟩⟩) (ab_cons mono (fun G g Q1 q1 => (ep_cat1 (K := K) (xs := (y0 :: yr).map V.str) (C := fun v => v = .str (flipH y0 pc)) (ep_var (ev_var rfl) (st_of (g _ _ h24))) (fun G2 g2 Q2 q2 => c_call (vs := [.str y0, .int (pc : Nat)]) (ea_cons (ev_op (ev_var rfl) ev_c (rv_ixT (st_of ((g.trans g2) _ _ h24)) hat)) (ea_cons (ev_is (ev_op (ev_var rfl) (ev_lenS (ev_op (ev_var rfl) ev_c (rv_ixT (st_of ((g.trans g2) _ _ h24)) hat)) (by omega)) (rv_I (by show (0 : Int) < (y0.length : Int); omega))) (congrArg V.int (by rw [hlen0]; exact hpc))) ea_nil)) fun G3 g3 => ⟨y0, pc, n, rfl, ⟨hy0, hpc2, by omega⟩, fun G4 g4 => q2 _ G4 (g3.trans g4) rfl⟩) (by rw [List.length_map]; omega)) G (Ex.refl _) _ fun v G2 g2 ⟨y, ey, b, ev, hb⟩ => by
        subst ey ev
        refine q1 (.ref b) G2 g2 ⟨b, (y0 :: yr ++ [flipH y0 pc]).map fun z => z.cps.toList, rfl, ?_, by simp, by rw [List.length_map, List.length_append]; show (y0 :: yr).length + 1 < 1000; omega, fun x hx => ?_⟩
        · have : ((y0 :: yr ++ [flipH y0 pc]).map fun z => z.cps.toList).map (fun h => V.str (tx h)) = (((y0 :: yr ++ [flipH y0 pc]).map fun z => z.cps.toList).map tx).map V.str := by rw [List.map_map (l := (y0 :: yr ++ [flipH y0 pc]).map fun z => z.cps.toList)]; rfl
          rw [this, lst_tx, List.map_append]
          exact hb
        · obtain ⟨z, hz, rfl⟩ := List.mem_map.mp hx
          rcases List.mem_append.mp hz with w | w
          · exact half_L (hh z w)
          · rw [List.mem_singleton.mp w]; exact half_L hfl) ab_nil)) (fun vs H2 h => by rw [h.1]; decide) (fun pl vs j σ' H' => ∃ y4 y5 y6 y7 : Option V, σ' = [some (.ref a), some (.int k), some (.ref p), some (.int xs[4]), y4, y5, y6, y7] ∧ Ex H H' ∧ H' pl = some (.lst vs) ∧ ∀ v ∈ vs, HsV K n v H') (fun pl vs H5 e5 h np => ⟨_, _, _, _, rfl, e02.trans (e4.trans (e5.trans (Ex.new np))), upd_same, fun v hv => (h.2 v hv).ex (Ex.new np)⟩) (fun pl vs j σ' H' _ hP => ?_) (fun pl vs j v σ' H5 hx hP => ?_) (fun pl vs σ' H5 hP => ?_)
      · obtain ⟨_, _, _, _, _, _, h5, _⟩ := hP
        exact sq_of h5
      · obtain ⟨y4, y5, y6, y7, rfl, e5, h5, hall⟩ := hP
        obtain ⟨ps, S, rfl, hSp, hS0, hSl, hSh⟩ := hall v (List.mem_of_getElem? hx)
        have hok : S ≠ [] ∧ S.length < 1000 ∧ (1 ≤ n ∧ n ≤ 8) ∧ ∀ x ∈ S, HalfN n x := ⟨hS0, hSl, ⟨hn1, hn8⟩, hSh⟩
        have em : (S.map tx).map V.str = S.map fun h => V.str (tx h) := by rw [List.map_map]; rfl
        have okS : S.map tx ≠ [] ∧ (S.map tx).length < 1000 ∧ n ≤ 1000 ∧ ∀ h ∈ S.map tx, HalfS n h := ⟨fun z => hS0 (List.map_eq_nil_iff.mp z), by rw [List.length_map]; exact hSl, by omega, fun y hy => by obtain ⟨x, hx, rfl⟩ := List.mem_map.mp hy; exact half_S (hSh x hx)⟩
        refine c_call (ea_cons (ev_var rfl) ea_nil) fun G6 g6 => ⟨ps, S.map tx, n, rfl, by rw [em]; exact ex_t g6 hSp, okS, fun r due H6 hr g6' hdue => ?_⟩
        have e6 : Ex H5 H6 := g6.trans g6'
        dsimp only [gName]
        refine c_call (ea_cons (ev_var rfl) ea_nil) fun G7 g7 => ⟨ps, S, n, rfl, ex_t (e6.trans g7) hSp, hok, hTB.ex (e5.trans (e6.trans g7)), fun v t H7 g7' hs htr ht => ?_, fun z cv t H7 g7' hcr hcv ht => ?_⟩
        · have e7 : Ex H6 H7 := g7.trans g7'
          obtain rfl := cross_none hs hr
          obtain rfl : due = .non := hdue
          refine ⟨t, [.str "told", v], rfl, st_of ht, rfl, _, [_], rfl, _, [], rfl, rfl, ?_⟩
          dsimp only
          refine q_when (b := false) (et_is (et_and (a := false) (b := false) (et_is (et_test (ev_op (ev_var rfl) ev_c rv_notN)) rfl) fun h => absurd h (by decide)) rfl) (fun hb H8 e8 => absurd hb (by decide)) (fun _ H8 e8 => ?_)
          refine s_when (b := false) (et_is (et_and (a := true) (b := false) (et_is (et_test (ev_op (ev_var rfl) ev_c rv_isN)) rfl) fun _ => et_is (et_or (a := false) (b := false) (et_is (et_test (ev_op (ev_var rfl) ev_c (rv_ne rfl))) (by rw [decide_eq_true rfl]; rfl)) fun _ => et_is (et_not (et_B (ev_call (z := .bl true) (ea_cons (ev_var rfl) (ea_cons (ev_var rfl) ea_nil)) fun G g Q1 q1 E1 => ⟨_, S, n, _, rfl, htr.tk (Tk.ex (e8.trans g)), hs, ⟨hn1, hn8⟩, q1⟩))) rfl) rfl) rfl) (fun hb H9 e9 => absurd hb (by decide)) (fun _ H9 e9 => ?_)
          have e59 : Ex H5 H9 := e6.trans (e7.trans (e8.trans e9))
          exact ⟨_, _, _, _, rfl, e5.trans e59, e59 _ _ h5, fun v hv => (hall v hv).ex e59⟩
        · have e7 : Ex H6 H7 := g7.trans g7'
          obtain rfl := hr.uniq hcr
          have hne : due ≠ .non := fun e => by
            obtain ⟨i2, j2, F2⟩ := z
            obtain ⟨p2, q2, ev, _⟩ := hdue
            rw [e] at ev
            cases ev
          refine ⟨t, [.str "refused", cv], rfl, st_of ht, rfl, _, [_], rfl, _, [], rfl, rfl, ?_⟩
          dsimp only
          have hsh := sh_ref (m2 := n) (fun y hy => okS.2.2.2 y (mem_srt.mp hy)) hcr
          refine q_when (b := false) (et_is (et_and (a := true) (b := false) (et_is (et_test (ev_op (ev_var rfl) ev_c rv_notN)) (by rw [decide_eq_false hne]; rfl)) fun _ => et_test (ev_neD (d := .tuple [.str "refused", dX (some z)]) (ed_tup2D (ed_ev (v := .str "refused") (ev_var rfl) fun G g => .str _) (ed_ev (ev_var rfl) fun G g => (ResX.ex g hcv).dp)) (ed_tup2D (ed_ev ev_c fun G g => .str _) (ed_ev (ev_var rfl) fun G g => (ResX.ex (e7.trans g) hdue).dp)) hsh)) rfl) (fun hb H8 e8 => absurd hb (by decide)) (fun _ H8 e8 => ?_)
          refine s_when (b := false) (et_is (et_and (a := false) (b := false) (et_is (et_test (ev_op (ev_var rfl) ev_c rv_isN)) (decide_eq_false hne)) fun h => absurd h (by decide)) rfl) (fun hb H9 e9 => absurd hb (by decide)) (fun _ H9 e9 => ?_)
          have e59 : Ex H5 H9 := e6.trans (e7.trans (e8.trans e9))
          exact ⟨_, _, _, _, rfl, e5.trans e59, e59 _ _ h5, fun v hv => (hall v hv).ex e59⟩
      · obtain ⟨y4, y5, y6, y7, rfl, e5, h5, hall⟩ := hP
        exact ⟨_, _, _, _, _, _, _, rfl, e5⟩
    · obtain ⟨y1, y2, y3, y4, y5, y6, y7, rfl, e1⟩ := hP
      dsimp only
      exact s_ret ev_c fun H2 e2 => q H2 (e1.trans e2)
end
end Hid

namespace Hid
open PySem PySem.Spec PyProof.Rows L2 Evl
/-! the base refusal's __init__ -/
def clsDef (s : Stmt) : Stmt := match s with
  | .ClassDef _ _ _ body _ _ _ _ _ _ _ => body.getD 0 (.Pass ⟨0, 0, 0, 0⟩)
  | _ => .Pass ⟨0, 0, 0, 0⟩
abbrev st_hinit : Stmt := clsDef (topS 1)
theorem sc_hinit : FnScope ["self", "why"] ["self", "why"] (defScope st_hinit) := ⟨rfl, rfl, rfl, by decide +kernel, rfl, by decide +kernel, by decide +kernel⟩
section
variable {P : Program} {w : World} {K : PySem.W.Frag} {mg : Str → Option Value} {base : Heap}
theorem hin_ok {fI : Addr} {fdI : FuncData} (F : FunD K "__init__" "HalvesError.__init__" (defArgs st_hinit) (defBody st_hinit) (defScope st_hinit) [.str "refused"] [] fI fdI) (ty : PySem.W.typeIn K (.ref fI) = some (.type "function")) (m_VE : mg "ValueError" = none)
    (vV : PySem.W.findCls K (.type "ValueError") (.type "type") "__init__" = some (.val (.builtin "ValueError.__init__"))) : HIn P w K mg base fI fdI := by
  refine ⟨?_, ty, ?_⟩
  · obtain ⟨ds, hv, hb⟩ := F.binds1 (ps := ["self", "why"]) 2 1 (by decide) rfl fun T kV doc pm an cdv ct us its hu hi => match us, hu, its, hi with | [_, _], _, [_], _ => ⟨_, rfl, rfl⟩
    cases hv
    exact hb
  · refine F.ok sc_hinit (k := 0) (fun vs H Q E h => ?_) (fun cdv A outer s H vs Q E hr h => ?_)
    · obtain ⟨a, C, y, rfl, _⟩ := h
      rfl
    · obtain ⟨a, C, y, rfl, hO, ea, q⟩ := h
      refine ⟨_, (pss_one (ps_expr (pe_veinit (by rfl) m_VE vV (pa_cons (pv 0) (pa_cons (pv 1) pa_nil))))), ?_⟩
      exact ⟨_, rfl, _, rfl, a, C, [y], rfl, by show 1 ≤ 1000; decide, hO, ea, q⟩
abbrev st_fi_NoTree : Stmt := clsDef (topS 8)
theorem sc_fi_NoTree : FnScope ["self", "crossing"] ["self", "crossing"] (defScope st_fi_NoTree) := ⟨rfl, rfl, rfl, by decide +kernel, rfl, by decide +kernel, by decide +kernel⟩
theorem finit_NoTree {fX fI cH : Addr} {fdX fdI : FuncData} {mc : Value} (F : Fun K "__init__" "NoTree.__init__" st_fi_NoTree fX fdX) (I : HIn P w K mg base fI fdI) (kI : PySem.W.keepIn K (.ref fI) = true) (gH : mg "HalvesError" = some (.ref cH)) (r : ClX.CRead K cH mc) (at_ : PySem.W.findCls K (.ref cH) mc "__init__" = some (.val (.ref fI))) : FnOk P w K mg base CX0 2 fX fdX ["self", "crossing"] (sp_finit K "crossing") := by
  refine F.ok sc_fi_NoTree (k := 1) (fun vs H Q E h => ?_) (fun cdv A outer s H vs Q E hr h => ?_)
  · obtain ⟨a, C, y, rfl, _⟩ := h
    rfl
  · obtain ⟨a, C, y, rfl, hO, hf, ea, q⟩ := h
    refine ⟨_, pss_cons (ps_expr (pe_cdef (pe_glob (v := .ref cH) (by rfl) gH rfl) r at_ I.2.2 (hr.mono (by decide)) kI I.1 .nil pass0 (pa_cons (pv 0) (pa_cons pe_str pa_nil)))) (pss_one (ps_ost (pv 0) (pv 1))), ?_⟩
    exact ⟨rfl, _, rfl, a, C, _, rfl, hO, ea, _, rfl, _, rfl, a, C, rfl, hO, hf, .inl ⟨ea, fun dx hn hne => q dx _ hn hne rfl⟩⟩
end
end Hid

namespace Hid
open PySem PySem.Spec PyProof.Rows L2 Evl
theorem df_mk {K : PySem.W.Frag} {h : Heap} {mg : Str → Option Value} (X : K.In h) (G : h.Ns mainGlobals mg) {x : Str} {st : Stmt} {ps : List Str} {f : Addr} {od an : Option Addr} {sl : Array (Option Value)} {oc kV dc pm cd ct : Value}
    (a : PySem.W.nsIn K mainGlobals x = some (some (.ref f))) (l : K.lookup f = some ⟨oc, od, .func (PySem.W.fnOf x x (defArgs st) (defBody st) (defScope st) .none kV dc pm an cd ct), sl⟩) (c : PySem.W.codeIn K cd x = true) (k : PySem.W.keepIn K (.ref f) = true)
    (hb : ∀ (kV doc pm : Value) (an : Option Addr) (cdv ct : Value) (us : List Value), us.length = ps.length → bindArgs (PySem.W.fnOf x x (defArgs st) (defBody st) (defScope st) .none kV doc pm an cdv ct) ⟨us, []⟩ = pure (ps.zip us)) : Df K mg x st ps :=
  ⟨f, _, fun_mk (st := st) l c k, (fun_mk (st := st) l c k).binds hb, PySem.W.mg_of X G a⟩
theorem dfc_mk {K : PySem.W.Frag} {h : Heap} {mg : Str → Option Value} (X : K.In h) (G : h.Ns mainGlobals mg) {x : Str} {st : Stmt} {ps : List Str} {f cc : Addr} {od an : Option Addr} {sl : Array (Option Value)} {oc kV dc pm ct : Value}
    (a : PySem.W.nsIn K mainGlobals x = some (some (.ref f))) (l : K.lookup f = some ⟨oc, od, .func (PySem.W.fnOf x x (defArgs st) (defBody st) (defScope st) .none kV dc pm an (.ref cc) ct), sl⟩) (c : PySem.W.codeIn K (.ref cc) x = true) (k : PySem.W.keepIn K (.ref f) = true)
    (hb : ∀ (kV doc pm : Value) (an : Option Addr) (cdv ct : Value) (us : List Value), us.length = ps.length → bindArgs (PySem.W.fnOf x x (defArgs st) (defBody st) (defScope st) .none kV doc pm an cdv ct) ⟨us, []⟩ = pure (ps.zip us)) : DfC K mg x st ps cc :=
  ⟨f, _, fun_mk (st := st) l c k, (fun_mk (st := st) l c k).binds hb, PySem.W.mg_of X G a, rfl⟩
/-- a def's promise at the very data that stands there -/
theorem at_fd {P : Program} {w : World} {K : PySem.W.Frag} {mg : Str → Option Value} {base : Heap} {CX : CXT} {n : Nat} {ps : List Str} {sp : Sp} {x : Str} {st : Stmt} {f : Addr} {fd fd2 : FuncData} (G : FnOk P w K mg base CX n f fd ps sp) (F : Fun K x x st f fd) (F2 : Fun K x x st f fd2) : FnOk P w K mg base CX n f fd2 ps sp := by
  obtain ⟨oc, od, kV, doc, pm, an, cdv, ct, osl, e1, lk, _⟩ := F.ex
  obtain ⟨oc2, od2, kV2, doc2, pm2, an2, cdv2, ct2, osl2, e2, lk2, _⟩ := F2.ex
  have e := lk.symm.trans lk2
  injection e with e
  injection e with _ _ e _
  injection e with e
  rw [← e]
  exact G
theorem all_mk {l : PySem.W.OpenLaw} {w : World} {K : PySem.W.Frag} {h : Heap} {mg : Str → Option Value} {fa : Addr} {Rc : Str → Prop} {f0 : Addr} {od0 an0 : Option Addr} {sl0 : Array (Option Value)} {oc0 kV0 dc0 pm0 ct0 : Value} {cd0 : Value} {f1 : Addr} {od1 an1 : Option Addr} {sl1 : Array (Option Value)} {oc1 kV1 dc1 pm1 ct1 : Value} {cd1 : Value} {f2 : Addr} {od2 an2 : Option Addr} {sl2 : Array (Option Value)} {oc2 kV2 dc2 pm2 ct2 : Value} {cd2 : Value} {f3 : Addr} {od3 an3 : Option Addr} {sl3 : Array (Option Value)} {oc3 kV3 dc3 pm3 ct3 : Value} {cd3 : Addr} {pp3 : Addr} {o13 : Value} {o23 : Option Addr} {s23 : Array (Option Value)} {vs3 : Array Value} {f4 : Addr} {od4 an4 : Option Addr} {sl4 : Array (Option Value)} {oc4 kV4 dc4 pm4 ct4 : Value} {cd4 : Value} {f5 : Addr} {od5 an5 : Option Addr} {sl5 : Array (Option Value)} {oc5 kV5 dc5 pm5 ct5 : Value} {cd5 : Value} {f6 : Addr} {od6 an6 : Option Addr} {sl6 : Array (Option Value)} {oc6 kV6 dc6 pm6 ct6 : Value} {cd6 : Value} {f7 : Addr} {od7 an7 : Option Addr} {sl7 : Array (Option Value)} {oc7 kV7 dc7 pm7 ct7 : Value} {cd7 : Value} {f8 : Addr} {od8 an8 : Option Addr} {sl8 : Array (Option Value)} {oc8 kV8 dc8 pm8 ct8 : Value} {cd8 : Value} {f9 : Addr} {od9 an9 : Option Addr} {sl9 : Array (Option Value)} {oc9 kV9 dc9 pm9 ct9 : Value} {cd9 : Value} {f10 : Addr} {od10 an10 : Option Addr} {sl10 : Array (Option Value)} {oc10 kV10 dc10 pm10 ct10 : Value} {cd10 : Value} {f11 : Addr} {od11 an11 : Option Addr} {sl11 : Array (Option Value)} {oc11 kV11 dc11 pm11 ct11 : Value} {cd11 : Value} {f12 : Addr} {od12 an12 : Option Addr} {sl12 : Array (Option Value)} {oc12 kV12 dc12 pm12 ct12 : Value} {cd12 : Value} {f13 : Addr} {od13 an13 : Option Addr} {sl13 : Array (Option Value)} {oc13 kV13 dc13 pm13 ct13 : Value} {cd13 : Value} {f14 : Addr} {od14 an14 : Option Addr} {sl14 : Array (Option Value)} {oc14 kV14 dc14 pm14 ct14 : Value} {cd14 : Value} {f15 : Addr} {od15 an15 : Option Addr} {sl15 : Array (Option Value)} {oc15 kV15 dc15 pm15 ct15 : Value} {cd15 : Value} {f16 : Addr} {od16 an16 : Option Addr} {sl16 : Array (Option Value)} {oc16 kV16 dc16 pm16 ct16 : Value} {cd16 : Value} {f17 : Addr} {od17 an17 : Option Addr} {sl17 : Array (Option Value)} {oc17 kV17 dc17 pm17 ct17 : Value} {cd17 : Value} {f18 : Addr} {od18 an18 : Option Addr} {sl18 : Array (Option Value)} {oc18 kV18 dc18 pm18 ct18 : Value} {cd18 : Value} {f19 : Addr} {od19 an19 : Option Addr} {sl19 : Array (Option Value)} {oc19 kV19 dc19 pm19 ct19 : Value} {cd19 : Value} {f20 : Addr} {od20 an20 : Option Addr} {sl20 : Array (Option Value)} {oc20 kV20 dc20 pm20 ct20 : Value} {cd20 : Value} {f21 : Addr} {od21 an21 : Option Addr} {sl21 : Array (Option Value)} {oc21 kV21 dc21 pm21 ct21 : Value} {cd21 : Value} {f22 : Addr} {od22 an22 : Option Addr} {sl22 : Array (Option Value)} {oc22 kV22 dc22 pm22 ct22 : Value} {cd22 : Value} {f23 : Addr} {od23 an23 : Option Addr} {sl23 : Array (Option Value)} {oc23 kV23 dc23 pm23 ct23 : Value} {cd23 : Value} {f24 : Addr} {od24 an24 : Option Addr} {sl24 : Array (Option Value)} {oc24 kV24 dc24 pm24 ct24 : Value} {cd24 : Value} {f25 : Addr} {od25 an25 : Option Addr} {sl25 : Array (Option Value)} {oc25 kV25 dc25 pm25 ct25 : Value} {cd25 : Value} {a_PAIRS : Addr} {odP : Option Addr} {slP : Array (Option Value)} {nP : Nat} {tP1 tP2 tP3 tP4 : Tok} {tHS : Tok} {c_HalvesError : Addr} {c_NoName : Addr} {c_NoRow : Addr} {c_NoRoom : Addr} {c_NoText : Addr} {c_NoNumber : Addr} {c_NoParting : Addr} {c_NoTree : Addr} {c_NoKnot : Addr} {c_NoPlace : Addr} {c_NoRule : Addr} {c_NoFit : Addr} {c_NoHalf : Addr} {c_NoOrder : Addr} {c_NoUndo : Addr} {c_NoLikeness : Addr} {c_NoCall : Addr} {fI TI : Addr} {odI anI odT : Option Addr} {slI slT : Array (Option Value)} {ocI ocT kVI dcI pmI cdI ctI : Value} {tI : Tok} {nI : Nat} {fN_NoTree : Addr} {odN_NoTree anN_NoTree : Option Addr} {slN_NoTree : Array (Option Value)} {ocN_NoTree kVN_NoTree dcN_NoTree pmN_NoTree cdN_NoTree ctN_NoTree : Value} (X : K.In h) (G : h.Ns mainGlobals mg) (hfa : mg "law" = some (.ref fa)) (hTab : ∀ (y : Str) (c P : Addr), Rc y → PySem.W.tabIn K y = some (c, P) → PySem.W.CodeHd h c P ∧ h.get? P = some (PySem.W.tabObj #[]))
    (a0 : PySem.W.nsIn K mainGlobals "pair_at" = some (some (.ref f0))) (l0 : K.lookup f0 = some ⟨oc0, od0, .func (PySem.W.fnOf "pair_at" "pair_at" (defArgs st_pair_at) (defBody st_pair_at) (defScope st_pair_at) .none kV0 dc0 pm0 an0 cd0 ct0), sl0⟩) (c0 : PySem.W.codeIn K cd0 "pair_at" = true) (k0 : PySem.W.keepIn K (.ref f0) = true)
    (a1 : PySem.W.nsIn K mainGlobals "four_at" = some (some (.ref f1))) (l1 : K.lookup f1 = some ⟨oc1, od1, .func (PySem.W.fnOf "four_at" "four_at" (defArgs st_four_at) (defBody st_four_at) (defScope st_four_at) .none kV1 dc1 pm1 an1 cd1 ct1), sl1⟩) (c1 : PySem.W.codeIn K cd1 "four_at" = true) (k1 : PySem.W.keepIn K (.ref f1) = true)
    (a2 : PySem.W.nsIn K mainGlobals "crossing_of" = some (some (.ref f2))) (l2 : K.lookup f2 = some ⟨oc2, od2, .func (PySem.W.fnOf "crossing_of" "crossing_of" (defArgs st_crossing_of) (defBody st_crossing_of) (defScope st_crossing_of) .none kV2 dc2 pm2 an2 cd2 ct2), sl2⟩) (c2 : PySem.W.codeIn K cd2 "crossing_of" = true) (k2 : PySem.W.keepIn K (.ref f2) = true)
    (a3 : PySem.W.nsIn K mainGlobals "shows_told_pairs" = some (some (.ref f3))) (l3 : K.lookup f3 = some ⟨oc3, od3, .func (PySem.W.fnOf "shows_told_pairs" "shows_told_pairs" (defArgs st_shows_told_pairs) (defBody st_shows_told_pairs) (defScope st_shows_told_pairs) .none kV3 dc3 pm3 an3 (.ref cd3) ct3), sl3⟩) (c3 : PySem.W.codeIn K (.ref cd3) "shows_told_pairs" = true) (k3 : PySem.W.keepIn K (.ref f3) = true)
    (tE3 : K.lookup cd3 = some ⟨o13, o23, .fields vs3, s23⟩) (tG3 : vs3[11]? = some (.ref pp3)) (tN3 : K.lookup pp3 = none) (tR3 : Rc "shows_told_pairs")
    (a4 : PySem.W.nsIn K mainGlobals "knots_for" = some (some (.ref f4))) (l4 : K.lookup f4 = some ⟨oc4, od4, .func (PySem.W.fnOf "knots_for" "knots_for" (defArgs st_knots_for) (defBody st_knots_for) (defScope st_knots_for) .none kV4 dc4 pm4 an4 cd4 ct4), sl4⟩) (c4 : PySem.W.codeIn K cd4 "knots_for" = true) (k4 : PySem.W.keepIn K (.ref f4) = true)
    (a5 : PySem.W.nsIn K mainGlobals "unlike_places" = some (some (.ref f5))) (l5 : K.lookup f5 = some ⟨oc5, od5, .func (PySem.W.fnOf "unlike_places" "unlike_places" (defArgs st_unlike_places) (defBody st_unlike_places) (defScope st_unlike_places) .none kV5 dc5 pm5 an5 cd5 ct5), sl5⟩) (c5 : PySem.W.codeIn K cd5 "unlike_places" = true) (k5 : PySem.W.keepIn K (.ref f5) = true)
    (a6 : PySem.W.nsIn K mainGlobals "parted_at" = some (some (.ref f6))) (l6 : K.lookup f6 = some ⟨oc6, od6, .func (PySem.W.fnOf "parted_at" "parted_at" (defArgs st_parted_at) (defBody st_parted_at) (defScope st_parted_at) .none kV6 dc6 pm6 an6 cd6 ct6), sl6⟩) (c6 : PySem.W.codeIn K cd6 "parted_at" = true) (k6 : PySem.W.keepIn K (.ref f6) = true)
    (a7 : PySem.W.nsIn K mainGlobals "change_together" = some (some (.ref f7))) (l7 : K.lookup f7 = some ⟨oc7, od7, .func (PySem.W.fnOf "change_together" "change_together" (defArgs st_change_together) (defBody st_change_together) (defScope st_change_together) .none kV7 dc7 pm7 an7 cd7 ct7), sl7⟩) (c7 : PySem.W.codeIn K cd7 "change_together" = true) (k7 : PySem.W.keepIn K (.ref f7) = true)
    (a8 : PySem.W.nsIn K mainGlobals "ties_for" = some (some (.ref f8))) (l8 : K.lookup f8 = some ⟨oc8, od8, .func (PySem.W.fnOf "ties_for" "ties_for" (defArgs st_ties_for) (defBody st_ties_for) (defScope st_ties_for) .none kV8 dc8 pm8 an8 cd8 ct8), sl8⟩) (c8 : PySem.W.codeIn K cd8 "ties_for" = true) (k8 : PySem.W.keepIn K (.ref f8) = true)
    (a9 : PySem.W.nsIn K mainGlobals "tree_of" = some (some (.ref f9))) (l9 : K.lookup f9 = some ⟨oc9, od9, .func (PySem.W.fnOf "tree_of" "tree_of" (defArgs st_tree_of) (defBody st_tree_of) (defScope st_tree_of) .none kV9 dc9 pm9 an9 cd9 ct9), sl9⟩) (c9 : PySem.W.codeIn K cd9 "tree_of" = true) (k9 : PySem.W.keepIn K (.ref f9) = true)
    (a10 : PySem.W.nsIn K mainGlobals "knots_beside" = some (some (.ref f10))) (l10 : K.lookup f10 = some ⟨oc10, od10, .func (PySem.W.fnOf "knots_beside" "knots_beside" (defArgs st_knots_beside) (defBody st_knots_beside) (defScope st_knots_beside) .none kV10 dc10 pm10 an10 cd10 ct10), sl10⟩) (c10 : PySem.W.codeIn K cd10 "knots_beside" = true) (k10 : PySem.W.keepIn K (.ref f10) = true)
    (a11 : PySem.W.nsIn K mainGlobals "steps_towards" = some (some (.ref f11))) (l11 : K.lookup f11 = some ⟨oc11, od11, .func (PySem.W.fnOf "steps_towards" "steps_towards" (defArgs st_steps_towards) (defBody st_steps_towards) (defScope st_steps_towards) .none kV11 dc11 pm11 an11 cd11 ct11), sl11⟩) (c11 : PySem.W.codeIn K cd11 "steps_towards" = true) (k11 : PySem.W.keepIn K (.ref f11) = true)
    (a12 : PySem.W.nsIn K mainGlobals "is_knot" = some (some (.ref f12))) (l12 : K.lookup f12 = some ⟨oc12, od12, .func (PySem.W.fnOf "is_knot" "is_knot" (defArgs st_is_knot) (defBody st_is_knot) (defScope st_is_knot) .none kV12 dc12 pm12 an12 cd12 ct12), sl12⟩) (c12 : PySem.W.codeIn K cd12 "is_knot" = true) (k12 : PySem.W.keepIn K (.ref f12) = true)
    (a13 : PySem.W.nsIn K mainGlobals "way_on" = some (some (.ref f13))) (l13 : K.lookup f13 = some ⟨oc13, od13, .func (PySem.W.fnOf "way_on" "way_on" (defArgs st_way_on) (defBody st_way_on) (defScope st_way_on) .none kV13 dc13 pm13 an13 cd13 ct13), sl13⟩) (c13 : PySem.W.codeIn K cd13 "way_on" = true) (k13 : PySem.W.keepIn K (.ref f13) = true)
    (a14 : PySem.W.nsIn K mainGlobals "_law_cell" = some (some (.ref f14))) (l14 : K.lookup f14 = some ⟨oc14, od14, .func (PySem.W.fnOf "_law_cell" "_law_cell" (defArgs st__law_cell) (defBody st__law_cell) (defScope st__law_cell) .none kV14 dc14 pm14 an14 cd14 ct14), sl14⟩) (c14 : PySem.W.codeIn K cd14 "_law_cell" = true) (k14 : PySem.W.keepIn K (.ref f14) = true)
    (a15 : PySem.W.nsIn K mainGlobals "_law_numbers" = some (some (.ref f15))) (l15 : K.lookup f15 = some ⟨oc15, od15, .func (PySem.W.fnOf "_law_numbers" "_law_numbers" (defArgs st__law_numbers) (defBody st__law_numbers) (defScope st__law_numbers) .none kV15 dc15 pm15 an15 cd15 ct15), sl15⟩) (c15 : PySem.W.codeIn K cd15 "_law_numbers" = true) (k15 : PySem.W.keepIn K (.ref f15) = true)
    (a16 : PySem.W.nsIn K mainGlobals "_law_any_half" = some (some (.ref f16))) (l16 : K.lookup f16 = some ⟨oc16, od16, .func (PySem.W.fnOf "_law_any_half" "_law_any_half" (defArgs st__law_any_half) (defBody st__law_any_half) (defScope st__law_any_half) .none kV16 dc16 pm16 an16 cd16 ct16), sl16⟩) (c16 : PySem.W.codeIn K cd16 "_law_any_half" = true) (k16 : PySem.W.keepIn K (.ref f16) = true)
    (a17 : PySem.W.nsIn K mainGlobals "_law_flipped" = some (some (.ref f17))) (l17 : K.lookup f17 = some ⟨oc17, od17, .func (PySem.W.fnOf "_law_flipped" "_law_flipped" (defArgs st__law_flipped) (defBody st__law_flipped) (defScope st__law_flipped) .none kV17 dc17 pm17 an17 cd17 ct17), sl17⟩) (c17 : PySem.W.codeIn K cd17 "_law_flipped" = true) (k17 : PySem.W.keepIn K (.ref f17) = true)
    (a18 : PySem.W.nsIn K mainGlobals "_law_tree_halves" = some (some (.ref f18))) (l18 : K.lookup f18 = some ⟨oc18, od18, .func (PySem.W.fnOf "_law_tree_halves" "_law_tree_halves" (defArgs st__law_tree_halves) (defBody st__law_tree_halves) (defScope st__law_tree_halves) .none kV18 dc18 pm18 an18 cd18 ct18), sl18⟩) (c18 : PySem.W.codeIn K cd18 "_law_tree_halves" = true) (k18 : PySem.W.keepIn K (.ref f18) = true)
    (a19 : PySem.W.nsIn K mainGlobals "_law_halves" = some (some (.ref f19))) (l19 : K.lookup f19 = some ⟨oc19, od19, .func (PySem.W.fnOf "_law_halves" "_law_halves" (defArgs st__law_halves) (defBody st__law_halves) (defScope st__law_halves) .none kV19 dc19 pm19 an19 cd19 ct19), sl19⟩) (c19 : PySem.W.codeIn K cd19 "_law_halves" = true) (k19 : PySem.W.keepIn K (.ref f19) = true)
    (a20 : PySem.W.nsIn K mainGlobals "_law_crossing" = some (some (.ref f20))) (l20 : K.lookup f20 = some ⟨oc20, od20, .func (PySem.W.fnOf "_law_crossing" "_law_crossing" (defArgs st__law_crossing) (defBody st__law_crossing) (defScope st__law_crossing) .none kV20 dc20 pm20 an20 cd20 ct20), sl20⟩) (c20 : PySem.W.codeIn K cd20 "_law_crossing" = true) (k20 : PySem.W.keepIn K (.ref f20) = true)
    (a21 : PySem.W.nsIn K mainGlobals "_law_other" = some (some (.ref f21))) (l21 : K.lookup f21 = some ⟨oc21, od21, .func (PySem.W.fnOf "_law_other" "_law_other" (defArgs st__law_other) (defBody st__law_other) (defScope st__law_other) .none kV21 dc21 pm21 an21 cd21 ct21), sl21⟩) (c21 : PySem.W.codeIn K cd21 "_law_other" = true) (k21 : PySem.W.keepIn K (.ref f21) = true)
    (a22 : PySem.W.nsIn K mainGlobals "_law_told" = some (some (.ref f22))) (l22 : K.lookup f22 = some ⟨oc22, od22, .func (PySem.W.fnOf "_law_told" "_law_told" (defArgs st__law_told) (defBody st__law_told) (defScope st__law_told) .none kV22 dc22 pm22 an22 cd22 ct22), sl22⟩) (c22 : PySem.W.codeIn K cd22 "_law_told" = true) (k22 : PySem.W.keepIn K (.ref f22) = true)
    (a23 : PySem.W.nsIn K mainGlobals "_law_no_way" = some (some (.ref f23))) (l23 : K.lookup f23 = some ⟨oc23, od23, .func (PySem.W.fnOf "_law_no_way" "_law_no_way" (defArgs st__law_no_way) (defBody st__law_no_way) (defScope st__law_no_way) .none kV23 dc23 pm23 an23 cd23 ct23), sl23⟩) (c23 : PySem.W.codeIn K cd23 "_law_no_way" = true) (k23 : PySem.W.keepIn K (.ref f23) = true)
    (a24 : PySem.W.nsIn K mainGlobals "_law_ways_refused" = some (some (.ref f24))) (l24 : K.lookup f24 = some ⟨oc24, od24, .func (PySem.W.fnOf "_law_ways_refused" "_law_ways_refused" (defArgs st__law_ways_refused) (defBody st__law_ways_refused) (defScope st__law_ways_refused) .none kV24 dc24 pm24 an24 cd24 ct24), sl24⟩) (c24 : PySem.W.codeIn K cd24 "_law_ways_refused" = true) (k24 : PySem.W.keepIn K (.ref f24) = true)
    (a25 : PySem.W.nsIn K mainGlobals "law" = some (some (.ref f25))) (l25 : K.lookup f25 = some ⟨oc25, od25, .func (PySem.W.fnOf "law" "law" (defArgs st_law) (defBody st_law) (defScope st_law) .none kV25 dc25 pm25 an25 cd25 ct25), sl25⟩) (c25 : PySem.W.codeIn K cd25 "law" = true) (k25 : PySem.W.keepIn K (.ref f25) = true)
    (z_len : PySem.W.nsIn K mainGlobals "len" = some none)
    (z_tuple : PySem.W.nsIn K mainGlobals "tuple" = some none)
    (z_sorted : PySem.W.nsIn K mainGlobals "sorted" = some none)
    (z_set : PySem.W.nsIn K mainGlobals "set" = some none)
    (z_range : PySem.W.nsIn K mainGlobals "range" = some none)
    (z_any : PySem.W.nsIn K mainGlobals "any" = some none)
    (z_enumerate : PySem.W.nsIn K mainGlobals "enumerate" = some none)
    (z_isinstance : PySem.W.nsIn K mainGlobals "isinstance" = some none)
    (z_str : PySem.W.nsIn K mainGlobals "str" = some none)
    (z_abs : PySem.W.nsIn K mainGlobals "abs" = some none)
    (z_int : PySem.W.nsIn K mainGlobals "int" = some none)
    (z_ValueError : PySem.W.nsIn K mainGlobals "ValueError" = some none)
    (y_PAIRS : PySem.W.nsIn K mainGlobals "PAIRS" = some (some (.ref a_PAIRS)))
    (p_PAIRS : K.lookup a_PAIRS = some ⟨.type "tuple", odP, .seq #[.str "nn" tP1, .str "ny" tP2, .str "yn" tP3, .str "yy" tP4] nP, slP⟩)
    (y_HALF_SIGNS : PySem.W.nsIn K mainGlobals "HALF_SIGNS" = some (some (.str "ny" tHS)))
    (q_HalvesError : PySem.W.nsIn K mainGlobals "HalvesError" = some (some (.ref c_HalvesError)))
    (q_NoName : PySem.W.nsIn K mainGlobals "NoName" = some (some (.ref c_NoName)))
    (q_NoRow : PySem.W.nsIn K mainGlobals "NoRow" = some (some (.ref c_NoRow)))
    (q_NoRoom : PySem.W.nsIn K mainGlobals "NoRoom" = some (some (.ref c_NoRoom)))
    (q_NoText : PySem.W.nsIn K mainGlobals "NoText" = some (some (.ref c_NoText)))
    (q_NoNumber : PySem.W.nsIn K mainGlobals "NoNumber" = some (some (.ref c_NoNumber)))
    (q_NoParting : PySem.W.nsIn K mainGlobals "NoParting" = some (some (.ref c_NoParting)))
    (q_NoTree : PySem.W.nsIn K mainGlobals "NoTree" = some (some (.ref c_NoTree)))
    (q_NoKnot : PySem.W.nsIn K mainGlobals "NoKnot" = some (some (.ref c_NoKnot)))
    (q_NoPlace : PySem.W.nsIn K mainGlobals "NoPlace" = some (some (.ref c_NoPlace)))
    (q_NoRule : PySem.W.nsIn K mainGlobals "NoRule" = some (some (.ref c_NoRule)))
    (q_NoFit : PySem.W.nsIn K mainGlobals "NoFit" = some (some (.ref c_NoFit)))
    (q_NoHalf : PySem.W.nsIn K mainGlobals "NoHalf" = some (some (.ref c_NoHalf)))
    (q_NoOrder : PySem.W.nsIn K mainGlobals "NoOrder" = some (some (.ref c_NoOrder)))
    (q_NoUndo : PySem.W.nsIn K mainGlobals "NoUndo" = some (some (.ref c_NoUndo)))
    (q_NoLikeness : PySem.W.nsIn K mainGlobals "NoLikeness" = some (some (.ref c_NoLikeness)))
    (q_NoCall : PySem.W.nsIn K mainGlobals "NoCall" = some (some (.ref c_NoCall)))
    (o1_NoKnot : ∃ nm q N bs bm sn sub ab col dd k0 k1 k2 k3 k5, K.lookup c_NoKnot = some (excClassObj nm q c_NoKnot N bs bm true sn sub ab col dd k0 k1 k2 k3 k5 "ValueError.__new__") ∧ PySem.HandSPX.refsVE bm = true)
    (o2_NoKnot : PySem.W.findIn K (.ref c_NoKnot) "__setattr__" = some (some (.builtin "object.__setattr__")))
    (o3_NoKnot : PySem.W.subIn K (.ref c_NoKnot) (.type "BaseException") = some true)
    (o4_NoKnot : PySem.W.typeIn K (.ref c_NoKnot) = some (.type "type"))
    (o5_NoKnot : PySem.W.keepIn K (.ref c_NoKnot) = true)
    (o6_NoKnot : PySem.W.findIn K (.ref c_NoKnot) "__init__" = some (some (.ref fI)))
    (x1_NoKnot : PySem.W.findIn K (.ref c_NoKnot) "__getattribute__" = some (some (.builtin "BaseException.__getattribute__")))
    (x2_NoKnot : PySem.W.findIn K (.ref c_NoKnot) "__getattr__" = some none)
    (x4_NoKnot : PySem.W.hasDictIn K c_NoKnot = true)
    (x5_NoKnot : PySem.W.findIn K (.ref c_NoKnot) "__class__" = some (some (.builtin "object.__class__")))
    (x8_NoKnot : PySem.W.mroIn K c_NoKnot (.type "object") = some true)
    (o1_NoTree : ∃ nm q N bs bm sn sub ab col dd k0 k1 k2 k3 k5, K.lookup c_NoTree = some (excClassObj nm q c_NoTree N bs bm true sn sub ab col dd k0 k1 k2 k3 k5 "ValueError.__new__") ∧ PySem.HandSPX.refsVE bm = true)
    (o2_NoTree : PySem.W.findIn K (.ref c_NoTree) "__setattr__" = some (some (.builtin "object.__setattr__")))
    (o3_NoTree : PySem.W.subIn K (.ref c_NoTree) (.type "BaseException") = some true)
    (o4_NoTree : PySem.W.typeIn K (.ref c_NoTree) = some (.type "type"))
    (o5_NoTree : PySem.W.keepIn K (.ref c_NoTree) = true)
    (o6_NoTree : PySem.W.findIn K (.ref c_NoTree) "__init__" = some (some (.ref fN_NoTree)))
    (x1_NoTree : PySem.W.findIn K (.ref c_NoTree) "__getattribute__" = some (some (.builtin "BaseException.__getattribute__")))
    (x2_NoTree : PySem.W.findIn K (.ref c_NoTree) "__getattr__" = some none)
    (x4_NoTree : PySem.W.hasDictIn K c_NoTree = true)
    (x5_NoTree : PySem.W.findIn K (.ref c_NoTree) "__class__" = some (some (.builtin "object.__class__")))
    (x8_NoTree : PySem.W.mroIn K c_NoTree (.type "object") = some true)
    (f1_NoTree : PySem.W.findIn K (.ref c_NoTree) "crossing" = some none)
    (n1_NoTree : K.lookup fN_NoTree = some ⟨ocN_NoTree, odN_NoTree, .func (PySem.W.fnOf "__init__" "NoTree.__init__" (defArgs st_fi_NoTree) (defBody st_fi_NoTree) (defScope st_fi_NoTree) .none kVN_NoTree dcN_NoTree pmN_NoTree anN_NoTree cdN_NoTree ctN_NoTree), slN_NoTree⟩)
    (n2_NoTree : PySem.W.codeIn K cdN_NoTree "NoTree.__init__" = true)
    (n4_NoTree : PySem.W.keepIn K (.ref fN_NoTree) = true)
    (n5_NoTree : PySem.W.typeIn K (.ref fN_NoTree) = some (.type "function"))
    (x6 : PySem.W.specialIn K (.builtin "object.__class__") "__get__" = some (some (.builtin "getset_descriptor.__get__")))
    (x7 : PySem.W.takesIn K (.builtin "object.__class__") = some true)
    (i0 : PySem.W.findIn K (.ref c_HalvesError) "__init__" = some (some (.ref fI)))
    (i1 : K.lookup fI = some ⟨ocI, odI, .func (PySem.W.fnOf "__init__" "HalvesError.__init__" (defArgs st_hinit) (defBody st_hinit) (defScope st_hinit) (.ref TI) kVI dcI pmI anI cdI ctI), slI⟩)
    (i2 : PySem.W.codeIn K cdI "HalvesError.__init__" = true)
    (i3 : K.lookup TI = some ⟨ocT, odT, .seq #[.str "refused" tI] nI, slT⟩)
    (i4 : PySem.W.keepIn K (.ref fI) = true)
    (i5 : PySem.W.typeIn K (.ref fI) = some (.type "function"))
    (i6 : PySem.W.findCls K (.type "ValueError") (.type "type") "__init__" = some (.val (.builtin "ValueError.__init__")))
    (r1 : PySem.W.readsIn K c_HalvesError (.type "type") = true)
    (r2 : PySem.W.specialIn K (.ref c_HalvesError) "__getattribute__" = some (some (.builtin "type.__getattribute__")))
    (r3 : PySem.W.findCls K (.ref c_HalvesError) (.type "type") "__init__" = some (.val (.ref fI)))
    (xm_NoTree : PySem.W.exmOne K (.ref c_NoTree) (.ref c_HalvesError) = some true)
    (k5_NoTree : PySem.W.kitAny K (.ref c_NoTree) [.ref c_NoCall, .ref c_NoHalf, .ref c_NoLikeness, .ref c_NoOrder, .ref c_NoUndo] = some false)
    (k9_NoTree : PySem.W.kitAny K (.ref c_NoTree) [.ref c_NoFit, .ref c_NoName, .ref c_NoNumber, .ref c_NoParting, .ref c_NoPlace, .ref c_NoRoom, .ref c_NoRow, .ref c_NoRule, .ref c_NoText] = some false)
    (kv_NoTree : PySem.W.kitOne K (.ref c_NoTree) (.type "ValueError") = some true)
    (k_NoTree_NoTree : PySem.W.kitOne K (.ref c_NoTree) (.ref c_NoTree) = some true)
    (k_NoTree_NoKnot : PySem.W.kitOne K (.ref c_NoTree) (.ref c_NoKnot) = some false)
    (xm_NoKnot : PySem.W.exmOne K (.ref c_NoKnot) (.ref c_HalvesError) = some true)
    (k5_NoKnot : PySem.W.kitAny K (.ref c_NoKnot) [.ref c_NoCall, .ref c_NoHalf, .ref c_NoLikeness, .ref c_NoOrder, .ref c_NoUndo] = some false)
    (k9_NoKnot : PySem.W.kitAny K (.ref c_NoKnot) [.ref c_NoFit, .ref c_NoName, .ref c_NoNumber, .ref c_NoParting, .ref c_NoPlace, .ref c_NoRoom, .ref c_NoRow, .ref c_NoRule, .ref c_NoText] = some false)
    (kv_NoKnot : PySem.W.kitOne K (.ref c_NoKnot) (.type "ValueError") = some true)
    (k_NoKnot_NoKnot : PySem.W.kitOne K (.ref c_NoKnot) (.ref c_NoKnot) = some true)
    (k_NoKnot_NoTree : PySem.W.kitOne K (.ref c_NoKnot) (.ref c_NoTree) = some false) :
    LamX.LawAtS l w K CX0 7 63 "_law_script" mg fa h := by
  have m_len := PySem.W.mg_none_of X G z_len
  have m_tuple := PySem.W.mg_none_of X G z_tuple
  have m_sorted := PySem.W.mg_none_of X G z_sorted
  have m_set := PySem.W.mg_none_of X G z_set
  have m_range := PySem.W.mg_none_of X G z_range
  have m_any := PySem.W.mg_none_of X G z_any
  have m_enumerate := PySem.W.mg_none_of X G z_enumerate
  have m_isinstance := PySem.W.mg_none_of X G z_isinstance
  have m_str := PySem.W.mg_none_of X G z_str
  have m_abs := PySem.W.mg_none_of X G z_abs
  have m_int := PySem.W.mg_none_of X G z_int
  have m_ValueError := PySem.W.mg_none_of X G z_ValueError
  have c_PAIRS := PySem.W.mg_of X G y_PAIRS
  have c_HALF_SIGNS := PySem.W.mg_of X G y_HALF_SIGNS
  have D_pair_at : Df K mg "pair_at" st_pair_at ["half", "first", "second"] := df_mk X G a0 l0 c0 k0 (fun _ _ _ _ _ _ us hl => match us, hl with | [_, _, _], _ => rfl)
  have D_four_at : Df K mg "four_at" st_four_at ["rising", "first", "second"] := df_mk X G a1 l1 c1 k1 (fun _ _ _ _ _ _ us hl => match us, hl with | [_, _, _], _ => rfl)
  have D_crossing_of : Df K mg "crossing_of" st_crossing_of ["halves"] := df_mk X G a2 l2 c2 k2 (fun _ _ _ _ _ _ us hl => match us, hl with | [_], _ => rfl)
  have D_shows_told_pairs : DfC K mg "shows_told_pairs" st_shows_told_pairs ["halves", "start"] cd3 := dfc_mk X G a3 l3 c3 k3 (fun _ _ _ _ _ _ us hl => match us, hl with | [_, _], _ => rfl)
  have T3 := hTab "shows_told_pairs" cd3 pp3 tR3 (tabIn_mk a3 l3 rfl tE3 tG3)
  have D_knots_for : Df K mg "knots_for" st_knots_for ["halves"] := df_mk X G a4 l4 c4 k4 (fun _ _ _ _ _ _ us hl => match us, hl with | [_], _ => rfl)
  have D_unlike_places : Df K mg "unlike_places" st_unlike_places ["one", "other"] := df_mk X G a5 l5 c5 k5 (fun _ _ _ _ _ _ us hl => match us, hl with | [_, _], _ => rfl)
  have D_parted_at : Df K mg "parted_at" st_parted_at ["halves", "place"] := df_mk X G a6 l6 c6 k6 (fun _ _ _ _ _ _ us hl => match us, hl with | [_, _], _ => rfl)
  have D_change_together : Df K mg "change_together" st_change_together ["halves", "places"] := df_mk X G a7 l7 c7 k7 (fun _ _ _ _ _ _ us hl => match us, hl with | [_, _], _ => rfl)
  have D_ties_for : Df K mg "ties_for" st_ties_for ["halves", "knots"] := df_mk X G a8 l8 c8 k8 (fun _ _ _ _ _ _ us hl => match us, hl with | [_, _], _ => rfl)
  have D_tree_of : Df K mg "tree_of" st_tree_of ["halves"] := df_mk X G a9 l9 c9 k9 (fun _ _ _ _ _ _ us hl => match us, hl with | [_], _ => rfl)
  have D_knots_beside : Df K mg "knots_beside" st_knots_beside ["ties", "knot"] := df_mk X G a10 l10 c10 k10 (fun _ _ _ _ _ _ us hl => match us, hl with | [_, _], _ => rfl)
  have D_steps_towards : Df K mg "steps_towards" st_steps_towards ["ties", "end"] := df_mk X G a11 l11 c11 k11 (fun _ _ _ _ _ _ us hl => match us, hl with | [_, _], _ => rfl)
  have D_is_knot : Df K mg "is_knot" st_is_knot ["tree", "thing"] := df_mk X G a12 l12 c12 k12 (fun _ _ _ _ _ _ us hl => match us, hl with | [_, _], _ => rfl)
  have D_way_on : Df K mg "way_on" st_way_on ["tree", "one", "other"] := df_mk X G a13 l13 c13 k13 (fun _ _ _ _ _ _ us hl => match us, hl with | [_, _, _], _ => rfl)
  have D__law_cell : Df K mg "_law_cell" st__law_cell ["_law_script", "_law_k"] := df_mk X G a14 l14 c14 k14 (fun _ _ _ _ _ _ us hl => match us, hl with | [_, _], _ => rfl)
  have D__law_numbers : Df K mg "_law_numbers" st__law_numbers ["_law_cell_here", "_law_many"] := df_mk X G a15 l15 c15 k15 (fun _ _ _ _ _ _ us hl => match us, hl with | [_, _], _ => rfl)
  have D__law_any_half : Df K mg "_law_any_half" st__law_any_half ["_law_x", "_law_places"] := df_mk X G a16 l16 c16 k16 (fun _ _ _ _ _ _ us hl => match us, hl with | [_, _], _ => rfl)
  have D__law_flipped : Df K mg "_law_flipped" st__law_flipped ["_law_half", "_law_place"] := df_mk X G a17 l17 c17 k17 (fun _ _ _ _ _ _ us hl => match us, hl with | [_, _], _ => rfl)
  have D__law_tree_halves : Df K mg "_law_tree_halves" st__law_tree_halves ["_law_xs", "_law_places"] := df_mk X G a18 l18 c18 k18 (fun _ _ _ _ _ _ us hl => match us, hl with | [_, _], _ => rfl)
  have D__law_halves : Df K mg "_law_halves" st__law_halves ["_law_script", "_law_at"] := df_mk X G a19 l19 c19 k19 (fun _ _ _ _ _ _ us hl => match us, hl with | [_, _], _ => rfl)
  have D__law_crossing : Df K mg "_law_crossing" st__law_crossing ["_law_halves_here"] := df_mk X G a20 l20 c20 k20 (fun _ _ _ _ _ _ us hl => match us, hl with | [_], _ => rfl)
  have D__law_other : Df K mg "_law_other" st__law_other ["_law_e"] := df_mk X G a21 l21 c21 k21 (fun _ _ _ _ _ _ us hl => match us, hl with | [_], _ => rfl)
  have D__law_told : Df K mg "_law_told" st__law_told ["_law_halves_here"] := df_mk X G a22 l22 c22 k22 (fun _ _ _ _ _ _ us hl => match us, hl with | [_], _ => rfl)
  have D__law_no_way : Df K mg "_law_no_way" st__law_no_way ["_law_tree", "_law_one", "_law_other_here"] := df_mk X G a23 l23 c23 k23 (fun _ _ _ _ _ _ us hl => match us, hl with | [_, _, _], _ => rfl)
  have D__law_ways_refused : Df K mg "_law_ways_refused" st__law_ways_refused ["_law_tree", "_law_x"] := df_mk X G a24 l24 c24 k24 (fun _ _ _ _ _ _ us hl => match us, hl with | [_, _], _ => rfl)
  have D_law : Df K mg "law" st_law ["_law_script"] := df_mk X G a25 l25 c25 k25 (fun _ _ _ _ _ _ us hl => match us, hl with | [_], _ => rfl)
  have gc_HalvesError := PySem.W.mg_of X G q_HalvesError
  have gc_NoName := PySem.W.mg_of X G q_NoName
  have gc_NoRow := PySem.W.mg_of X G q_NoRow
  have gc_NoRoom := PySem.W.mg_of X G q_NoRoom
  have gc_NoText := PySem.W.mg_of X G q_NoText
  have gc_NoNumber := PySem.W.mg_of X G q_NoNumber
  have gc_NoParting := PySem.W.mg_of X G q_NoParting
  have gc_NoTree := PySem.W.mg_of X G q_NoTree
  have gc_NoKnot := PySem.W.mg_of X G q_NoKnot
  have gc_NoPlace := PySem.W.mg_of X G q_NoPlace
  have gc_NoRule := PySem.W.mg_of X G q_NoRule
  have gc_NoFit := PySem.W.mg_of X G q_NoFit
  have gc_NoHalf := PySem.W.mg_of X G q_NoHalf
  have gc_NoOrder := PySem.W.mg_of X G q_NoOrder
  have gc_NoUndo := PySem.W.mg_of X G q_NoUndo
  have gc_NoLikeness := PySem.W.mg_of X G q_NoLikeness
  have gc_NoCall := PySem.W.mg_of X G q_NoCall
  have xc_NoKnot : ExcC K c_NoKnot := ⟨x1_NoKnot, x2_NoKnot, o3_NoKnot, x4_NoKnot, x5_NoKnot, x6, x7, x8_NoKnot⟩
  have xc_NoTree : ExcC K c_NoTree := ⟨x1_NoTree, x2_NoTree, o3_NoTree, x4_NoTree, x5_NoTree, x6, x7, x8_NoTree⟩
  have E_NoKnot : ErrC K mg "NoKnot" c_NoKnot fI := ⟨⟨o1_NoKnot, o2_NoKnot, o3_NoKnot, o4_NoKnot, o5_NoKnot⟩, o6_NoKnot, gc_NoKnot, xc_NoKnot⟩
  have FI : FunD K "__init__" "HalvesError.__init__" (defArgs st_hinit) (defBody st_hinit) (defScope st_hinit) [.str "refused"] [] fI _ := ⟨⟨_, _, _, _, _, _, _, _, _, _, rfl, i1, i2, .inr ⟨by decide, TI, _, _, _, rfl, i3, rfl, .cons ⟨_, rfl⟩ .nil⟩, .inl rfl⟩, i4⟩
  have FN_NoTree := fun_mk (st := st_fi_NoTree) n1_NoTree n2_NoTree n4_NoTree
  have BN_NoTree : Binds K _ ["self", "crossing"] [] := FN_NoTree.binds (fun _ _ _ _ _ _ us hl => match us, hl with | [_, _], _ => rfl)
  have XF_NoTree : L2.XfC K c_NoTree ∧ PySem.W.findIn K (.ref c_NoTree) "crossing" = some none := ⟨⟨x1_NoTree, x2_NoTree, o3_NoTree, x4_NoTree⟩, f1_NoTree⟩
  have e := hfa.symm.trans (PySem.W.mg_of X G a25)
  cases e
  refine ⟨PySem.W.fnOf "law" "law" (defArgs st_law) (defBody st_law) (defScope st_law) .none kV25 dc25 pm25 an25 cd25 ct25, [(cd3, pp3)], spT [pp3] (sp_law K [pp3]), ?_, ?_, ?_, fun s v => .of_eq rfl, fun H a ns hl _ hH hS => ?_, fun base _ _ hB => ?_⟩
  · intro p hp
    simp only [List.mem_cons, List.not_mem_nil, or_false] at hp
    rcases hp with rfl
    · exact T3.2
  · intro p hp
    simp only [List.mem_cons, List.not_mem_nil, or_false] at hp
    rcases hp with rfl
    · exact tN3
  · intro p hp
    simp only [List.mem_cons, List.not_mem_nil, or_false] at hp
    rcases hp with rfl
    · exact T3.1
  · have hT : ∀ b ∈ ([pp3] : List Addr), H b = some (.tbl #[]) := fun b hb => by
      obtain ⟨p, hp, e⟩ := List.mem_map.mp (show b ∈ ([(cd3, pp3)] : List (Addr × Addr)).map (·.2) from hb)
      rw [← e]
      exact hH p hp
    exact ⟨hT, a, ns, rfl, xtab_sq hT hS, hl, fun P hP => xtab_in hP, fun H2 e2 => ⟨fun P hP => e2 _ _ (xtab_in hP), fun _ _ => rfl⟩⟩
  · refine tab_law ?_
    have B3 : GxR.TabB base mg cd3 pp3 := let z := hB (cd3, pp3) (by simp); ⟨z.code, z.bm, z.gP⟩
    have hI := hin_ok (P := l.prog) (w := w) (mg := mg) (base := base) FI i5 m_ValueError i6
    have E_NoTree : ErrF l.prog w K mg base "NoTree" "crossing" c_NoTree fN_NoTree _ := ⟨⟨o1_NoTree, o2_NoTree, o3_NoTree, o4_NoTree, o5_NoTree⟩, o6_NoTree, gc_NoTree, n5_NoTree, finit_NoTree (P := l.prog) (w := w) (base := base) FN_NoTree hI i4 gc_HalvesError ⟨r1, r2⟩ r3, BN_NoTree, f1_NoTree⟩
    have A__law_numbers := ok__law_numbers (P := l.prog) (w := w) (base := base) (ts := [pp3]) D__law_numbers m_abs m_range m_int
    have A__law_cell := ok__law_cell (P := l.prog) (w := w) (base := base) (ts := [pp3]) D__law_cell m_len
    have A__law_any_half := ok__law_any_half (P := l.prog) (w := w) (base := base) (ts := [pp3]) D__law_any_half m_range
    have A__law_flipped := ok__law_flipped (P := l.prog) (w := w) (base := base) (ts := [pp3]) D__law_flipped
    have A__law_tree_halves := ok__law_tree_halves (P := l.prog) (w := w) (base := base) (ts := [pp3]) D__law_tree_halves m_range m_len A__law_any_half A__law_flipped
    have A__law_halves := ok__law_halves (P := l.prog) (w := w) (base := base) (ts := [pp3]) D__law_halves m_tuple m_len A__law_numbers A__law_cell A__law_any_half A__law_tree_halves
    have A__law_crossing := ok__law_crossing (P := l.prog) (w := w) (base := base) (ts := [pp3]) D__law_crossing m_sorted m_range m_len m_tuple
    have A_pair_at := ok_pair_at (P := l.prog) (w := w) (base := base) (ts := [pp3]) D_pair_at
    have A_four_at := ok_four_at (P := l.prog) (w := w) (base := base) (ts := [pp3]) D_four_at m_len m_tuple c_PAIRS p_PAIRS A_pair_at
    have A_crossing_of := ok_crossing_of (P := l.prog) (w := w) (base := base) (ts := [pp3]) D_crossing_of m_sorted m_set m_len m_range A_four_at
    have A_shows_told_pairs := ok_shows_told_pairs (P := l.prog) (w := w) (base := base) (ts := [pp3]) D_shows_told_pairs B3 (by simp) m_len m_range m_any A_pair_at
    have A_knots_for := ok_knots_for (P := l.prog) (w := w) (base := base) (ts := [pp3]) D_knots_for m_range m_len c_HALF_SIGNS A_shows_told_pairs
    have A_unlike_places := ok_unlike_places (P := l.prog) (w := w) (base := base) (ts := [pp3]) D_unlike_places m_tuple m_range m_len
    have A_parted_at := ok_parted_at (P := l.prog) (w := w) (base := base) (ts := [pp3]) D_parted_at
    have A_change_together := ok_change_together (P := l.prog) (w := w) (base := base) (ts := [pp3]) D_change_together m_len A_parted_at
    have A_ties_for := ok_ties_for (P := l.prog) (w := w) (base := base) (ts := [pp3]) D_ties_for m_enumerate A_unlike_places A_change_together
    have A_tree_of := ok_tree_of (P := l.prog) (w := w) (base := base) (ts := [pp3]) D_tree_of m_tuple E_NoTree A_crossing_of A_knots_for A_ties_for
    have A__law_other := ok__law_other (P := l.prog) (w := w) (base := base) (ts := [pp3]) D__law_other m_isinstance gc_NoUndo gc_NoOrder gc_NoLikeness gc_NoHalf gc_NoCall gc_NoText gc_NoRule gc_NoRow gc_NoRoom gc_NoPlace gc_NoParting gc_NoNumber gc_NoName gc_NoFit
    have A__law_told := ok__law_told (P := l.prog) (w := w) (base := base) (ts := [pp3]) D__law_told m_isinstance m_ValueError gc_HalvesError gc_NoKnot gc_NoTree XF_NoTree xc_NoTree xm_NoTree k5_NoTree k9_NoTree kv_NoTree k_NoTree_NoTree k_NoTree_NoKnot A_tree_of A__law_other
    have A_is_knot := ok_is_knot (P := l.prog) (w := w) (base := base) (ts := [pp3]) D_is_knot m_isinstance m_str
    have A_steps_towards := ok_steps_towards (P := l.prog) (w := w) (base := base) (ts := [pp3]) D_steps_towards
    have A_way_on := ok_way_on (P := l.prog) (w := w) (base := base) (ts := [pp3]) D_way_on hI E_NoKnot A_is_knot A_steps_towards
    have A__law_no_way := ok__law_no_way (P := l.prog) (w := w) (base := base) (ts := [pp3]) D__law_no_way m_isinstance m_ValueError gc_HalvesError gc_NoTree gc_NoKnot xc_NoKnot xm_NoKnot k5_NoKnot k9_NoKnot kv_NoKnot k_NoKnot_NoKnot k_NoKnot_NoTree A_way_on A__law_other
    have A__law_ways_refused := ok__law_ways_refused (P := l.prog) (w := w) (base := base) (ts := [pp3]) D__law_ways_refused m_len A__law_no_way
    have A_law := ok_law (P := l.prog) (w := w) (base := base) (ts := [pp3]) D_law m_range m_len A__law_halves A__law_numbers A__law_cell A__law_flipped A__law_crossing A__law_told A__law_ways_refused
    obtain ⟨f9, fd9, F9, b9, g9, G9⟩ := A_law
    have e9 := g9.symm.trans hfa
    cases e9
    exact at_fd G9 F9 (fun_mk (st := st_law) l25 c25 k25)
end Hid
open PySem PySem.W PyProof.Rows
set_option maxHeartbeats 0 in
theorem PySem.Challenge.cw_hidhalves_k13_trees_refused_holds : PySem.Challenge.rw_hidhalves_k13_trees_refused.Holds := by
  w_on; o_law; k_head; (case hw => w_witness2)
  k_fill
  refine Hid.walk_ofG (l := PySem.Challenge.rw_hidhalves_k13_trees_refused) (n := 63) (k := 7) (x := "_law_script") (CX := fun _ => L2.CX0) rfl (by decide) rfl ⟨rfl, by decide, by decide⟩ (fun w h Y => PySem.W.kIn_of Y) ?F (fun _ _ _ _ _ h => h)
  case F =>
    intro w mg fa h KX G hmg hTab
    refine' Hid.all_mk KX G hmg hTab ?a0 ?l0 ?c0 ?k0 ?a1 ?l1 ?c1 ?k1 ?a2 ?l2 ?c2 ?k2 ?a3 ?l3 ?c3 ?k3 ?tE3 ?tG3 ?tN3 ?tR3 ?a4 ?l4 ?c4 ?k4 ?a5 ?l5 ?c5 ?k5 ?a6 ?l6 ?c6 ?k6 ?a7 ?l7 ?c7 ?k7 ?a8 ?l8 ?c8 ?k8 ?a9 ?l9 ?c9 ?k9 ?a10 ?l10 ?c10 ?k10 ?a11 ?l11 ?c11 ?k11 ?a12 ?l12 ?c12 ?k12 ?a13 ?l13 ?c13 ?k13 ?a14 ?l14 ?c14 ?k14 ?a15 ?l15 ?c15 ?k15 ?a16 ?l16 ?c16 ?k16 ?a17 ?l17 ?c17 ?k17 ?a18 ?l18 ?c18 ?k18 ?a19 ?l19 ?c19 ?k19 ?a20 ?l20 ?c20 ?k20 ?a21 ?l21 ?c21 ?k21 ?a22 ?l22 ?c22 ?k22 ?a23 ?l23 ?c23 ?k23 ?a24 ?l24 ?c24 ?k24 ?a25 ?l25 ?c25 ?k25 ?z_len ?z_tuple ?z_sorted ?z_set ?z_range ?z_any ?z_enumerate ?z_isinstance ?z_str ?z_abs ?z_int ?z_ValueError ?y_PAIRS ?p_PAIRS ?y_HALF_SIGNS ?q_HalvesError ?q_NoName ?q_NoRow ?q_NoRoom ?q_NoText ?q_NoNumber ?q_NoParting ?q_NoTree ?q_NoKnot ?q_NoPlace ?q_NoRule ?q_NoFit ?q_NoHalf ?q_NoOrder ?q_NoUndo ?q_NoLikeness ?q_NoCall ?o1_NoKnot ?o2_NoKnot ?o3_NoKnot ?o4_NoKnot ?o5_NoKnot ?o6_NoKnot ?x1_NoKnot ?x2_NoKnot ?x4_NoKnot ?x5_NoKnot ?x8_NoKnot ?o1_NoTree ?o2_NoTree ?o3_NoTree ?o4_NoTree ?o5_NoTree ?o6_NoTree ?x1_NoTree ?x2_NoTree ?x4_NoTree ?x5_NoTree ?x8_NoTree ?f1_NoTree ?n1_NoTree ?n2_NoTree ?n4_NoTree ?n5_NoTree ?x6 ?x7 ?i0 ?i1 ?i2 ?i3 ?i4 ?i5 ?i6 ?r1 ?r2 ?r3 ?xm_NoTree ?k5_NoTree ?k9_NoTree ?kv_NoTree ?k_NoTree_NoTree ?k_NoTree_NoKnot ?xm_NoKnot ?k5_NoKnot ?k9_NoKnot ?kv_NoKnot ?k_NoKnot_NoKnot ?k_NoKnot_NoTree
    (case a0 => k_is)
    (case l0 => k_is)
    (case c0 => k_is)
    (case k0 => k_is)
    (case a1 => k_is)
    (case l1 => k_is)
    (case c1 => k_is)
    (case k1 => k_is)
    (case a2 => k_is)
    (case l2 => k_is)
    (case c2 => k_is)
    (case k2 => k_is)
    (case a3 => k_is)
    (case l3 => k_is)
    (case c3 => k_is)
    (case k3 => k_is)
    (case tE3 => k_is)
    (case tG3 => rfl)
    (case tN3 => first | rfl | with_unfolding_all rfl)
    (case tR3 => first | rfl | decide +kernel)
    (case a4 => k_is)
    (case l4 => k_is)
    (case c4 => k_is)
    (case k4 => k_is)
    (case a5 => k_is)
    (case l5 => k_is)
    (case c5 => k_is)
    (case k5 => k_is)
    (case a6 => k_is)
    (case l6 => k_is)
    (case c6 => k_is)
    (case k6 => k_is)
    (case a7 => k_is)
    (case l7 => k_is)
    (case c7 => k_is)
    (case k7 => k_is)
    (case a8 => k_is)
    (case l8 => k_is)
    (case c8 => k_is)
    (case k8 => k_is)
    (case a9 => k_is)
    (case l9 => k_is)
    (case c9 => k_is)
    (case k9 => k_is)
    (case a10 => k_is)
    (case l10 => k_is)
    (case c10 => k_is)
    (case k10 => k_is)
    (case a11 => k_is)
    (case l11 => k_is)
    (case c11 => k_is)
    (case k11 => k_is)
    (case a12 => k_is)
    (case l12 => k_is)
    (case c12 => k_is)
    (case k12 => k_is)
    (case a13 => k_is)
    (case l13 => k_is)
    (case c13 => k_is)
    (case k13 => k_is)
    (case a14 => k_is)
    (case l14 => k_is)
    (case c14 => k_is)
    (case k14 => k_is)
    (case a15 => k_is)
    (case l15 => k_is)
    (case c15 => k_is)
    (case k15 => k_is)
    (case a16 => k_is)
    (case l16 => k_is)
    (case c16 => k_is)
    (case k16 => k_is)
    (case a17 => k_is)
    (case l17 => k_is)
    (case c17 => k_is)
    (case k17 => k_is)
    (case a18 => k_is)
    (case l18 => k_is)
    (case c18 => k_is)
    (case k18 => k_is)
    (case a19 => k_is)
    (case l19 => k_is)
    (case c19 => k_is)
    (case k19 => k_is)
    (case a20 => k_is)
    (case l20 => k_is)
    (case c20 => k_is)
    (case k20 => k_is)
    (case a21 => k_is)
    (case l21 => k_is)
    (case c21 => k_is)
    (case k21 => k_is)
    (case a22 => k_is)
    (case l22 => k_is)
    (case c22 => k_is)
    (case k22 => k_is)
    (case a23 => k_is)
    (case l23 => k_is)
    (case c23 => k_is)
    (case k23 => k_is)
    (case a24 => k_is)
    (case l24 => k_is)
    (case c24 => k_is)
    (case k24 => k_is)
    (case a25 => k_is)
    (case l25 => k_is)
    (case c25 => k_is)
    (case k25 => k_is)
    (case z_len => k_is)
    (case z_tuple => k_is)
    (case z_sorted => k_is)
    (case z_set => k_is)
    (case z_range => k_is)
    (case z_any => k_is)
    (case z_enumerate => k_is)
    (case z_isinstance => k_is)
    (case z_str => k_is)
    (case z_abs => k_is)
    (case z_int => k_is)
    (case z_ValueError => k_is)
    (case y_PAIRS => k_is)
    (case p_PAIRS => k_is)
    (case y_HALF_SIGNS => k_is)
    (case q_HalvesError => first | k_is | rfl | decide +kernel)
    (case q_NoName => first | k_is | rfl | decide +kernel)
    (case q_NoRow => first | k_is | rfl | decide +kernel)
    (case q_NoRoom => first | k_is | rfl | decide +kernel)
    (case q_NoText => first | k_is | rfl | decide +kernel)
    (case q_NoNumber => first | k_is | rfl | decide +kernel)
    (case q_NoParting => first | k_is | rfl | decide +kernel)
    (case q_NoTree => first | k_is | rfl | decide +kernel)
    (case q_NoKnot => first | k_is | rfl | decide +kernel)
    (case q_NoPlace => first | k_is | rfl | decide +kernel)
    (case q_NoRule => first | k_is | rfl | decide +kernel)
    (case q_NoFit => first | k_is | rfl | decide +kernel)
    (case q_NoHalf => first | k_is | rfl | decide +kernel)
    (case q_NoOrder => first | k_is | rfl | decide +kernel)
    (case q_NoUndo => first | k_is | rfl | decide +kernel)
    (case q_NoLikeness => first | k_is | rfl | decide +kernel)
    (case q_NoCall => first | k_is | rfl | decide +kernel)
    (case o1_NoKnot => exact ⟨_, _, _, _, _, _, _, _, _, _, _, _, _, _, _, (by k_is), rfl⟩)
    (case o2_NoKnot => first | k_is | rfl | decide +kernel)
    (case o3_NoKnot => first | k_is | rfl | decide +kernel)
    (case o4_NoKnot => first | k_is | rfl | decide +kernel)
    (case o5_NoKnot => first | k_is | rfl | decide +kernel)
    (case o6_NoKnot => first | k_is | rfl | decide +kernel)
    (case x1_NoKnot => first | k_is | rfl | decide +kernel)
    (case x2_NoKnot => first | k_is | rfl | decide +kernel)
    (case x4_NoKnot => first | k_is | rfl | decide +kernel)
    (case x5_NoKnot => first | k_is | rfl | decide +kernel)
    (case x8_NoKnot => first | k_is | rfl | decide +kernel)
    (case o1_NoTree => exact ⟨_, _, _, _, _, _, _, _, _, _, _, _, _, _, _, (by k_is), rfl⟩)
    (case o2_NoTree => first | k_is | rfl | decide +kernel)
    (case o3_NoTree => first | k_is | rfl | decide +kernel)
    (case o4_NoTree => first | k_is | rfl | decide +kernel)
    (case o5_NoTree => first | k_is | rfl | decide +kernel)
    (case o6_NoTree => first | k_is | rfl | decide +kernel)
    (case x1_NoTree => first | k_is | rfl | decide +kernel)
    (case x2_NoTree => first | k_is | rfl | decide +kernel)
    (case x4_NoTree => first | k_is | rfl | decide +kernel)
    (case x5_NoTree => first | k_is | rfl | decide +kernel)
    (case x8_NoTree => first | k_is | rfl | decide +kernel)
    (case f1_NoTree => first | k_is | rfl | decide +kernel)
    (case n1_NoTree => first | k_is | rfl | decide +kernel)
    (case n2_NoTree => first | k_is | rfl | decide +kernel)
    (case n4_NoTree => first | k_is | rfl | decide +kernel)
    (case n5_NoTree => first | k_is | rfl | decide +kernel)
    (case x6 => first | k_is | rfl | decide +kernel)
    (case x7 => first | k_is | rfl | decide +kernel)
    (case i0 => first | k_is | rfl | decide +kernel)
    (case i1 => first | k_is | rfl | decide +kernel)
    (case i2 => first | k_is | rfl | decide +kernel)
    (case i3 => first | k_is | rfl | decide +kernel)
    (case i4 => first | k_is | rfl | decide +kernel)
    (case i5 => first | k_is | rfl | decide +kernel)
    (case i6 => first | k_is | rfl | decide +kernel)
    (case r1 => first | k_is | rfl | decide +kernel)
    (case r2 => first | k_is | rfl | decide +kernel)
    (case r3 => first | k_is | rfl | decide +kernel)
    (case xm_NoTree => first | k_is | rfl | decide +kernel)
    (case k5_NoTree => first | k_is | rfl | decide +kernel)
    (case k9_NoTree => first | k_is | rfl | decide +kernel)
    (case kv_NoTree => first | k_is | rfl | decide +kernel)
    (case k_NoTree_NoTree => first | k_is | rfl | decide +kernel)
    (case k_NoTree_NoKnot => first | k_is | rfl | decide +kernel)
    (case xm_NoKnot => first | k_is | rfl | decide +kernel)
    (case k5_NoKnot => first | k_is | rfl | decide +kernel)
    (case k9_NoKnot => first | k_is | rfl | decide +kernel)
    (case kv_NoKnot => first | k_is | rfl | decide +kernel)
    (case k_NoKnot_NoKnot => first | k_is | rfl | decide +kernel)
    (case k_NoKnot_NoTree => first | k_is | rfl | decide +kernel)
