import PyProof.Rows.All
import Wide.All
import OpenK.AllK
import Wide.FinOn
import HandS.ForMost
import HandS.Style
import HandS.EndBits
import HandS.Wide
import HandS.SortKw
import HandS.Rev
import HandS.Flow
import PyProof.ReprRoads
import PyProof.TupleOfSeq
import HandS.IsInst
import KE.GoesMore
import HandS.TupAny
import HandS.SetFor
import PySem.Challenge.RW_oddrounds_k02_keys_and_rows
set_option Elab.async false
set_option maxRecDepth 100000
set_option maxHeartbeats 4000000
set_option linter.all false
namespace KX
open PySem PySem.Spec L2
open PyProof.Rows hiding St
/-! sorted of a tuple of ints -/
section
variable {prog : Program} {w : World} {A : Around} {E : Value → Shared → Prop} {s : Shared}
theorem sortSeq {kw : List (Str × Value)} {b : Bool} {l : Addr} {T : String} {o : Obj} {vs : List Value} {n : Nat} {ns : List Int} {Q : Value → Shared → Prop}
    (hT : T = "list" ∨ T = "tuple") (ho : s.heap.get? l = some o) (hc : o.cls = .type T) (hd : o.data = .seq vs.toArray n) (hz : vs.length ≤ sizeLine) (hI : IntsAre vs ns)
    (hk : ∀ a, Builtin.«list.sort» ⟨[.ref a], kw⟩ = Builtin.«list.sort» ⟨[.ref a], [(Str.ofString "reverse", .bool b)]⟩)
    (ha1 : argsOk "sorted" ⟨[.ref l], kw⟩) (ha2 : ∀ a, argsOk "list.sort" ⟨[a], kw⟩)
    (h : ∀ (h1 h' : Heap) (p : Addr) (out : List Value) (ns' : List Int) (e : Nat), (∀ c u, s.heap.get? c = some u → h1.get? c = some u) → (∀ c u, h1.get? c = some u → h'.get? c = some u) → h1.objs.size ≤ p → h'.get? p = some (seqObj "list" out.toArray e) → IntsAre out ns' → ns'.Perm ns → OrdB b ns' →
      Q (.ref p) { s with heap := h' }) :
    wpAny (model prog w) A (call (.builtin "sorted") [.ref l] kw) Q E s := by
  refine call_function_entry_kw kind_sorted plain_sorted entry_sorted ha1 ?_
  unfold Builtin.«sorted»; refine wpAny_bind (m := checkCount "sorted" 1 1 _) (wpAny_pure ?_)
  refine wpAny_bind (wpAny_collect_seq l hT ho hc hd (fun h1 k1 => ?_) (by rw [List.size_toArray]; exact hz))
  rw [show vs.toArray.toList = vs by simp]
  refine wpAny_bind (wpAny_newList ?_ hz)
  have hp : (h1.push (seqObj "list" vs.toArray 0)).get? h1.objs.size = some (seqObj "list" vs.toArray 0) := Heap.get?_push_size _ rfl
  show wpAny _ _ _ _ _ { s with heap := h1.push (seqObj "list" vs.toArray 0) }
  refine wpAny_bind (wpAny_holding (wpAny_call_entry_kw slot_list_sort ⟨_, hp, rfl⟩ entry_list_sort ?_ (ha2 _)))
  rw [hk]
  refine SrtR.list_sort_ordR SrtO.swo_int hp hz (fun h2 => SrtO.ints_sortable hI h2) fun out hs hb => ⟨_, rfl, ?_⟩
  refine wpAny_pure ⟨_, rfl, ?_⟩
  obtain ⟨ns', i1, i2, i3⟩ := SrtR.ints_outR hI hs hb
  obtain ⟨ep, he⟩ := sortedHeap_at (vs := vs) (out := (if b = true then out.toArray.reverse else out.toArray)) hp
  refine h h1 _ _ (if b = true then out.toArray.reverse else out.toArray).toList ns' ep k1 (fun c u q => ?_) (Nat.le_refl _) (by rw [Array.toArray_toList]; exact he) i1 i2 i3
  have lt := Heap.lt_size q
  rw [sortedHeap_old (Nat.ne_of_lt lt) (by rw [size_push']; exact Nat.lt_succ_of_lt lt)]
  exact Heap.get?_push_of_some _ q
end

section
variable {X : Cx}
/-- sorted(t), sorted(t, reverse=b), t a tuple or a list of ints -/
def rSrt (K : PySem.W.Frag) (b : Bool) : List V → Hp → VK → Prop := fun vs H Q => ∃ (a : Addr) (ns : List Int), vs = [V.ref a] ∧ (SqL K H a (ns.map V.int) ∨ SqT K H a (ns.map V.int)) ∧
  ∀ (ns' : List Int) (p : Addr), ns'.Perm ns → OrdB b ns' → H p = none → Q (.ref p) (upd H p (.lst (ns'.map V.int)))
theorem srt_run {b : Bool} {kw : List (Str × Value)} {pins : List (Addr × Obj)} {s : Shared} {σ : St} {H : Hp} {a : Addr} {ns : List Int} {Q : VK} (I : Inv X pins σ H s) (hs : SqL X.K H a (ns.map V.int) ∨ SqT X.K H a (ns.map V.int))
    (hk : ∀ c, Builtin.«list.sort» ⟨[.ref c], kw⟩ = Builtin.«list.sort» ⟨[.ref c], [(Str.ofString "reverse", .bool b)]⟩) (ha1 : argsOk "sorted" ⟨[.ref a], kw⟩) (ha2 : ∀ c, argsOk "list.sort" ⟨[c], kw⟩)
    (q : ∀ (ns' : List Int) (p : Addr), ns'.Perm ns → OrdB b ns' → H p = none → Q (.ref p) (upd H p (.lst (ns'.map V.int)))) :
    wpAny (model X.prog X.w) X.A (call (.builtin "sorted") [.ref a] kw) (EP X pins σ Q) X.xe s := by
  have fin : ∀ (its : List Value), Vals (ns.map V.int) its → (ns.map V.int).length ≤ sizeLine → ∀ (h1 h' : Heap) (p : Addr) (out : List Value) (ns' : List Int) (e : Nat), (∀ c u, s.heap.get? c = some u → h1.get? c = some u) → (∀ c u, h1.get? c = some u → h'.get? c = some u) →
      h1.objs.size ≤ p → h'.get? p = some (seqObj "list" out.toArray e) → IntsAre out ns' → ns'.Perm ns → OrdB b ns' → EP X pins σ Q (.ref p) { s with heap := h' } := by
    intro its rv hz h1 h' p out ns' e k1 k2 hp he i1 i2 i3
    have I1 : Inv X pins σ H { s with heap := h1 } := I.kept (t' := s.toks) k1
    refine ⟨.ref p, upd H p (.lst (ns'.map V.int)), I1.laid (t' := s.toks) k2 hp (show ObjOk X.prog X.w _ h' p (.lst (ns'.map V.int)) from ⟨?_, out, e, vals_of_ints i1, he⟩), rfl, q ns' p i2 i3 (I1.hok.fresh hp)⟩
    rw [List.length_map, i2.length_eq]; rw [List.length_map] at hz; exact hz
  rcases hs with hs | hs
  · obtain ⟨its, rv, pl, hz⟩ := I.list hs
    obtain ⟨o, ho, hc, n, hd⟩ := pl.isList
    exact sortSeq (.inl rfl) ho hc hd (by rw [← rv.length]; exact hz) rv.ints hk ha1 ha2 (fin its rv hz)
  · obtain ⟨its, rv, ⟨o, ho, hc, n, hd⟩, hz⟩ := I.tuple hs
    exact sortSeq (.inr rfl) ho hc hd (by rw [← rv.length]; exact hz) rv.ints hk ha1 ha2 (fin its rv hz)
theorem sort_nokw (a : Addr) : Builtin.«list.sort» ⟨[.ref a], []⟩ = Builtin.«list.sort» ⟨[.ref a], [(Str.ofString "reverse", .bool false)]⟩ := by
  rw [list_sort_rev]
  first | rfl | kernel_rfl
theorem cr_srt : CallR X (.builtin "sorted") (rSrt X.K false) := by
  intro pins s σ H vs us Q I r ⟨a, ns, e, hs, q⟩
  subst e
  rw [Vals.ref1 r]
  exact srt_run I hs sort_nokw (args_sorted1 _) (fun _ => args_list_sort _) q
theorem cr_srtRev {b : Bool} : CallRK X (.builtin "sorted") [Str.ofString "reverse"] (fun vs zs H Q => zs = [.bl b] ∧ rSrt X.K b vs H Q) := by
  intro pins s σ H vs zs us ws Q I r rz ⟨ez, a, ns, e, hs, q⟩
  subst e ez
  rw [Vals.ref1 r]
  obtain ⟨w1, rfl, e1⟩ := vals1 rz
  obtain rfl : w1 = Value.bool b := e1
  exact srt_run I hs (fun _ => rfl) (args_sorted_rev _ _) (fun _ => args_list_sort_rev _ _) q
/-! a list's slice with a step -/
def pickV (xs : List V) (lo hi st : Option Int) : List V := (sliceRange (sliceBounds lo hi st xs.length).1 (sliceBounds lo hi st xs.length).2.1 (sliceBounds lo hi st xs.length).2.2).filterMap (xs[·]?)
theorem vals_pick {xs : List V} {us : List Value} (r : Vals xs us) : ∀ js : List Nat, Vals (js.filterMap (xs[·]?)) (js.filterMap (us[·]?))
  | [] => .nil
  | j :: js => by
    cases e : xs[j]? with
    | none =>
      rw [List.filterMap_cons_none e, List.filterMap_cons_none (r.none_of e)]; exact vals_pick r js
    | some x =>
      obtain ⟨u, hu, rv⟩ := r.get e
      rw [List.filterMap_cons_some e, List.filterMap_cons_some hu]
      exact .cons rv (vals_pick r js)
def tStep (K : PySem.W.Frag) (te : TE) (tl th ts : TO) : TE := fun σ H Q => te σ H fun x H1 => tl σ H1 fun l H2 => th σ H2 fun u H3 => ts σ H3 fun t H4 => t ≠ some 0 ∧ ∃ a xs, x = .ref a ∧ SqL K H4 a xs ∧ ∀ p, H4 p = none → Q (.ref p) (upd H4 p (.lst (pickV xs l u t)))
theorem pe_step {e s1 : Expr} {lo hi : Option Expr} {te : TE} {tl th ts : TO} {p2 pos : Pos} (he : PE X e te) (hl : PO X lo tl) (hu : PO X hi th) (hs : PO X (some s1) ts) : PE X (.Subscript e (.Slice lo hi (some s1) p2) pos) (tStep X.K te tl th ts) := by
  constructor
  intro pins s σ H Q I h
  refine Subscript_ (thn (he.run pins s σ H _ I h) fun v s1 ⟨x, H1, I1, r1, q1⟩ => ?_)
  refine wpAny_Slice (thn (hl.run pins s1 σ H1 _ I1 q1) fun vl s2 ⟨l, H2, I2, pl, q2⟩ => thn (hu.run pins s2 σ H2 _ I2 q2) fun vu s3 ⟨u, H3, I3, pu, q3⟩ => thn (hs.run pins s3 σ H3 _ I3 q3) fun vt s4 ⟨t, H4, I4, pt, hn, a, xs, ex, hx, q⟩ => ?_)
  subst ex
  cases r1
  have I5 : Inv X pins σ H4 { s4 with heap := s4.heap.push { cls := .type "slice", data := .fields #[vl, vu, vt] } } := I4.kept (t' := s4.toks) fun b o z => Heap.get?_push_of_some _ z
  obtain ⟨its, r, ht, hz⟩ := I5.list hx
  have hlen := r.length
  refine tail_any (ops := [.ref a, .ref s4.heap.objs.size]) ht.isList.typeIs (PySem.slot_list_getitem.lookup) ?_ (by with_unfolding_all rfl)
  refine wpAny_getItem_list_slice ht.isList (Heap.IsSliceOf.new _ vl vu vt) pl pu pt hn ?_ (by rw [List.size_toArray]; omega)
  have e1 : slicePick its.toArray l u t = ((sliceRange (sliceBounds l u t xs.length).1 (sliceBounds l u t xs.length).2.1 (sliceBounds l u t xs.length).2.2).filterMap (its[·]?)).toArray := by
    unfold slicePick; rw [List.size_toArray, hlen]; simp
  rw [e1]
  refine ⟨.ref _, _, I5.laid (t' := s4.toks) (o := .lst (pickV xs l u t)) (fun b o z => Heap.get?_push_of_some _ z) (Nat.le_refl _) ⟨?_, _, 0, vals_pick r _, Heap.get?_push_size _ rfl⟩, rfl, q _ (I5.hok.fresh (Nat.le_refl _))⟩
  have h1 := slicePick_size_le its.toArray l u t
  rw [e1, List.size_toArray, List.size_toArray] at h1
  have h2 := (vals_pick r (sliceRange (sliceBounds l u t xs.length).1 (sliceBounds l u t xs.length).2.1 (sliceBounds l u t xs.length).2.2)).length
  unfold pickV; omega
end
end KX

namespace KX
open PySem PySem.Spec L2
open PyProof.Rows hiding St
/-! a def whose callers run no repr: its promise -/
structure FnOkG (P : Program) (w : World) (K : PySem.W.Frag) (mg : Str → Option Value) (base : Heap) (CX : CXT) (k : Nat) (f : Addr) (fd : FuncData) (ps : List Str) (sp : Sp) : Prop where
  len : ∀ vs H Q E, sp vs H Q E → vs.length = ps.length
  run : ∀ (A : Around) (outer : List Env) (s : Shared) (H : Hp) (args : Args) (us : List Value) (vs : List V) (Q : VK) (E : XK), A.guards = some [] → Room k A → Env0 P w K mg base A outer s H → BindsTo s fd args (ps.zip us) → Vals vs us → sp vs H Q E →
    codeAny (model P w) A (.call (.ref f) args) (CR CX outer P w H s Q E) s
theorem FnOk.toG {P : Program} {w : World} {K : PySem.W.Frag} {mg : Str → Option Value} {base : Heap} {CX : CXT} {k : Nat} {f : Addr} {fd : FuncData} {ps : List Str} {sp : Sp} (F : FnOk P w K mg base CX k f fd ps sp) : FnOkG P w K mg base CX k f fd ps sp :=
  ⟨F.len, fun A outer s H args us vs Q E _ => F.run A outer s H args us vs Q E⟩
section
variable {CX : CXT} {P : Program} {w : World} {K : PySem.W.Frag} {mg : Str → Option Value} {base : Heap} {k : Nat} {f : Addr} {N ps : List Str} {sp : Sp}
theorem fnG {name qual : Str} {params : Arguments} {body : List Stmt} {scope : Scope} {dV kV doc pm cdv ct oc : Value} {an od : Option Addr} {osl : Array (Option Value)}
    (lk : K.lookup f = some ⟨oc, od, .func (PySem.W.fnOf name qual params body scope dV kV doc pm an cdv ct), osl⟩) (hcd : PySem.W.codeIn K cdv qual = true) (S : FnScope N ps scope) (len : ∀ vs H Q E, sp vs H Q E → vs.length = ps.length)
    (hbody : ∀ (A : Around) (outer : List Env) (s : Shared) (H : Hp) (vs : List V) (Q : VK) (E : XK), A.guards = some [] → Room k (A.deeper (envOfC qual scope s.heap.objs.size f cdv)) → sp vs H Q E →
      ∃ t, PSs (cxOf CX P w K mg base N qual scope f cdv A outer s H E) body t ∧ t { nx := fun _ H' => Q .non H', rt := Q } (start N vs) H) :
    FnOkG P w K mg base CX (k + 1) f (PySem.W.fnOf name qual params body scope dV kV doc pm an cdv ct) ps sp := by
  constructor
  · exact len
  intro A outer s H args us vs Q E hgd hr e0 hb r hsp
  have hl := len _ _ _ _ hsp
  have KX := e0.mod.kin.keeps fun b o e => (e0.bs b o e).1
  have lim := e0.mod.nolimit.keeps fun b o e => (e0.bs b o e).1
  have hkind : ∀ y ∈ ps.zip us, scope.names.lookup y.1 = some .local ∨ (scope.names.lookup y.1 = some .cell ∧ ((cellsFrom (s.heap.objs.size + 1) scope.names []).lookup y.1).isSome = true) := by
    rintro ⟨n, v⟩ hy
    exact (S.par n (List.of_mem_zip hy).1).imp id fun q => ⟨q, PySem.W.cellsFrom_some _ _ _ (.inl q)⟩
  refine codeAny_call_function hr.depth (KX _ _ lk) rfl S.co S.gen rfl (PySem.W.codeRec_of KX hcd) (hb _ _ _ _ (wpAny_newFunctionEnv_cells S.kind hkind fun env he s1 x => ?_))
  subst he
  obtain ⟨t, ht, hq⟩ := hbody A outer s H vs Q E hgd (hr.deeper _) hsp
  have I := inv_start (CX := CX) (E := E) (qual := qual) (f := f) (cd := cdv) S hr.hd e0 hl r x
  refine ⟨lim.keeps x.toInCall.keep, codeAny_func (wpAny_mono (ht.run [] s1 (start N vs) H _ I hq) (fun fl s' hs => ?_) fun e s' hs => hs)⟩
  cases fl with
  | ret u =>
    obtain ⟨v, σ', H', J, rv, q⟩ := hs
    exact ⟨v, H', J.os, J.bare, J.base, J.hok, rv, q⟩
  | next =>
    obtain ⟨σ', H', J, q⟩ := hs
    exact ⟨V.non, H', J.os, J.bare, J.base, J.hok, rfl, q⟩
  | brk => obtain ⟨_, _, _, q⟩ := hs; exact False.elim q
  | cont => obtain ⟨_, _, _, q⟩ := hs; exact False.elim q
theorem Fun.okG {x qual : Str} {st : Stmt} {fd : FuncData} (F : Fun K x qual st f fd) (S : FnScope N ps (defScope st)) (len : ∀ vs H Q E, sp vs H Q E → vs.length = ps.length)
    (hbody : ∀ (cdv : Value) (A : Around) (outer : List Env) (s : Shared) (H : Hp) (vs : List V) (Q : VK) (E : XK), A.guards = some [] → Room k (A.deeper (envOfC qual (defScope st) s.heap.objs.size f cdv)) → sp vs H Q E →
      ∃ t, PSs (cxOf CX0 P w K mg base N qual (defScope st) f cdv A outer s H E).nox (defBody st) t ∧ t { nx := fun _ H' => Q .non H', rt := Q } (start N vs) H) : FnOkG P w K mg base CX0 (k + 1) f fd ps sp := by
  obtain ⟨oc, od, kV, doc, pm, an, cdv, ct, osl, rfl, lk, hcd⟩ := F.ex
  refine fnG lk hcd S len fun A outer s H vs Q E hgd hr hsp => ?_
  obtain ⟨t, h, q⟩ := hbody cdv A outer s H vs Q E hgd hr hsp
  exact ⟨t, h.nox, q⟩
end
section
variable {X : Cx} {CX : CXT} {k : Nat} {f C : Addr} {fd : FuncData} {ps : List Str} {sp : Sp} {dvs : List V} {ds : List Value} {E : XK} {x m : Str} {p pos : Pos} {e : Expr} {es : List Expr} {t : TA}
theorem pe_callG (F : FnOkG X.prog X.w X.K X.mg X.base CX k f fd ps sp) (hgd : X.A.guards = some []) (hr : Room k X.A) (hg : Gl X x) (hm : X.mg x = some (.ref f)) (hk : PySem.W.keepIn X.K (.ref f) = true) (hb : Binds X.K fd ps ds) (hd : Vals dvs ds) (hx : Passes CX X E)
    (ha : PA X (e :: es) t) (hdb : (x == ("__debug__" : Str)) = false := by decide) (he : starEach (e :: es) X.env = (false, eval e X.env) :: starEach es X.env := by rfl) (hpl : (backTo pos (starEach es X.env)).any (·.1) = false := by rfl) :
    PE X (.Call (.Name x p) (e :: es) [] pos) (tCall sp dvs E t) := by
  constructor
  intro pins s σ H Q I h
  refine wpAny_Call_Name_kw (ld_glob I hg hm (PySem.W.callWith_K (h₀ := X.base) I.ok.mod.kin hk (thn (ha.run pos pins s σ H _ I h) fun us s1 ⟨vs, H1, I1, r, q⟩ => ⟨I1.kIn, ?_⟩) he hpl) hdb)
  have r2 : Vals (vs ++ dvs) (us ++ ds) := r.append hd
  have hl : (us ++ ds).length = ps.length := r2.length.symm.trans (F.len _ _ _ _ q)
  refine wpAny_call (codeAny_mono (F.run X.A X.stack s1 H1 ⟨us, []⟩ (us ++ ds) (vs ++ dvs) Q E hgd hr I1.env0 (hb s1 us I1.kIn hl) r2 q) fun z s' hq => ?_)
  rcases z with e' | fl
  · exact hx pins σ H1 s1 e' s' I1 hq
  · cases fl <;> first | exact I1.after hq | exact False.elim hq
end
/-! repr of data -/
section
variable {X : Cx}
def rRepr (K : PySem.W.Frag) : List V → Hp → VK → Prop := fun vs H Q => ∃ v d, vs = [v] ∧ Dp K H v d ∧ d.hasDict = false ∧ d.showable = true ∧ d.depth ≤ 60 ∧ d.shown.length ≤ sizeLine ∧ Q (.str d.shown) H
theorem cr_repr (hgd : X.A.guards = some []) (hu : X.A.units + 64 < cLine) : CallR X (.builtin "repr") (rRepr X.K) := by
  intro pins s σ H vs us Q I r ⟨v, d, e, hd, hn, hs, h60, hz, q⟩
  subst e
  obtain ⟨u, rfl, rv⟩ := vals1 r
  have fin : ∀ (h' : Heap) (t : Tok) (tk : Nat), (∀ b o, s.heap.get? b = some o → h'.get? b = some o) → EP X pins σ Q (.str d.shown t) { s with heap := h', toks := tk } := fun h' t tk hk => ⟨.str d.shown, H, I.kept hk, ⟨t, rfl⟩, q⟩
  obtain ⟨as, rd⟩ := Dp.reads I d v u hd rv
  cases rd with
  | none => exact P.repr_of_none (fin s.heap _ _ fun _ _ z => z)
  | bool b => exact P.repr_of_bool (by have := fin s.heap s.toks (s.toks + 1) fun _ _ z => z; simpa only [PyData.shown] using this)
  | int i t => exact P.repr_of_int (by simpa [PyData.showable] using hs) (by have := fin s.heap s.toks (s.toks + 1) fun _ _ z => z; simpa only [PyData.shown] using this)
  | str x t => exact P.repr_of_str (by have := fin s.heap s.toks (s.toks + 1) fun _ _ z => z; simpa only [PyData.shown] using this) (by simpa only [PyData.shown] using hz)
  | list h1 h2 h3 h4 => exact repr_of_reads' (.list h1 h2 h3 h4) hs (PyData.noDict_hsm hn) hgd (by omega) (fun _ _ z => z) (fun h' t tk hk => fin h' t tk hk) hz
  | tuple h1 h2 h3 h4 => exact repr_of_reads' (.tuple h1 h2 h3 h4) hs (PyData.noDict_hsm hn) hgd (by omega) (fun _ _ z => z) (fun h' t tk hk => fin h' t tk hk) hz
  | dict h1 h2 h3 h4 h5 => cases hd
end
end KX

namespace KX
open PySem PySem.Spec L2
open PyProof.Rows hiding St
/-! the end of a law whose def runs repr -/
section
variable {P : Program} {w : World} {K : PySem.W.Frag} {mg mb : Str → Option Value} {k : Nat} {fa a : Addr} {fd : FuncData} {x : Str} {sp : Sp} {s1 : Shared} {vs : List Value} {ns : List Int}
abbrev LawEnd (s1 : Shared) : Result → Shared → Prop := fun r s' => r = .ok (.ret (.bool true)) ∧ OldK s1.heap s'.heap ∧ s'.os = s1.os ∧ AllBare s'.gens
theorem law_core (KX : K.In s1.heap) (hns : s1.heap.Ns mainGlobals mg) (hb : s1.heap.Ns builtinsNs mb) (hbb : ∀ y : Str, y ≠ "__name__" → mb y = bootBuiltins y) (hlim : s1.heap.NoLimit) (hg : s1.gens = #[])
    (ha : s1.heap.get? a = some { cls := .type "list", data := .seq vs.toArray }) (hr : Room k callerA)
    (F : ∀ base : Heap, K.In base → base.Ns mainGlobals mg → FnOkG P w K mg base CX0 k fa fd [x] sp) (hbind : ∀ (s : Shared) (u : Value), BindsTo s fd ⟨[u], []⟩ [(x, u)])
    (H : Hp) (hO : Only H) (hok : HOk P w H s1.heap) (hA : ∀ b, H b ≠ none → b = a) (hK : H a ≠ none → K.lookup a = none)
    (hsp : sp [.ref a] H (fun v _ => v = .bl true) fun _ _ _ => False) :
    codeAny (model P w) callerA (.call (.ref fa) ⟨[.ref a], []⟩) (LawEnd s1) s1 := by
  have free : ∀ {b : Addr} {o : Obj} {es : Array DictEntry} {n : Nat}, s1.heap.get? b = some o → o.data = .dict es n → H b = none := by
    intro b o es n e d
    cases q : H b with
    | none => rfl
    | some u =>
      obtain rfl := hA b (by rw [q]; exact nofun)
      rw [ha] at e
      cases e
      exact absurd (show Data.seq vs.toArray _ = Data.dict es n from d) (fun z => nomatch z)
  have hid : ∀ {b : Addr} {m : Str → Option Value}, s1.heap.Ns b m → (hidT s1.heap H).Ns b m := by
    rintro b m ⟨o, es, n, e, d, r⟩
    exact ⟨o, es, n, hidT_get e (free e d), d, r⟩
  have kin : K.In (hidT s1.heap H) := by
    intro b o e
    refine hidT_get (KX b o e) ?_
    cases q : H b with
    | none => rfl
    | some u =>
      obtain rfl := hA b (by rw [q]; exact nofun)
      rw [hK (by rw [q]; exact nofun)] at e
      cases e
  have mod : Mod K mg (hidT s1.heap H) := by
    obtain ⟨mc, z1, z2⟩ := hlim
    exact ⟨kin, hid hns, ⟨mb, hid hb, hbb⟩, mc, hid z1, z2⟩
  have e0 : Env0 P w K mg (hidT s1.heap H) callerA [] s1 H := by
    refine ⟨rfl, mod, fun b o e => of_hidT e, Nat.le_of_eq (hidT_size _ _), trivial, fun b z => ?_, hok, .of_eq hg⟩
    exact absurd (show b ∈ ([] : List Addr) from z) List.not_mem_nil
  refine codeAny_mono ((F _ kin (hid hns)).run callerA [] s1 H ⟨[.ref a], []⟩ [.ref a] [.ref a] _ _ rfl hr e0 (hbind s1 (.ref a)) (.cons rfl .nil) hsp) fun r s' h => ?_
  rcases r with e | fl
  · exact False.elim h
  cases fl with
  | ret u =>
    obtain ⟨v, H', os, bare, un, hok', rv, q⟩ := h
    obtain rfl : v = .bl true := q
    obtain rfl : u = Value.bool true := rv
    refine ⟨rfl, OldK.of_keep fun b o e => ?_, os, bare⟩
    rcases hO b with z | ⟨ob, xs, z⟩
    · exact un.keep b o e z (fun y => absurd (show b ∈ ([] : List Addr) from y) List.not_mem_nil) List.not_mem_nil
    · obtain ⟨e1, _⟩ := hok b _ z
      obtain ⟨e2, _⟩ := hok' b _ (un.frzs b ob _ z)
      exact e2.trans (e1.symm.trans e)
  | next => exact False.elim h
  | brk => exact False.elim h
  | cont => exact False.elim h
theorem law_run (KX : K.In s1.heap) (hns : s1.heap.Ns mainGlobals mg) (hb : s1.heap.Ns builtinsNs mb) (hbb : ∀ y : Str, y ≠ "__name__" → mb y = bootBuiltins y) (hlim : s1.heap.NoLimit) (hg : s1.gens = #[])
    (ha : s1.heap.get? a = some { cls := .type "list", data := .seq vs.toArray }) (hi : IntsAre vs ns) (hl : ns.length ≤ sizeLine) (hr : Room k callerA)
    (F : ∀ base : Heap, K.In base → base.Ns mainGlobals mg → FnOkG P w K mg base CX0 k fa fd [x] sp) (hbind : ∀ (s : Shared) (u : Value), BindsTo s fd ⟨[u], []⟩ [(x, u)])
    (hsp : ∀ H : Hp, SqL K H a (ns.map V.int) → sp [.ref a] H (fun v _ => v = .bl true) fun _ _ _ => False) :
    codeAny (model P w) callerA (.call (.ref fa) ⟨[.ref a], []⟩) (LawEnd s1) s1 := by
  have rv := vals_ints hi
  cases hk : K.lookup a with
  | some o =>
    have e := KX a o hk
    rw [ha] at e
    cases e
    refine law_core KX hns hb hbb hlim hg ha hr F hbind (fun _ => none) (fun _ => .inl rfl) (fun b u z => nomatch (show (none : Option HO) = some u from z)) (fun b z => absurd rfl z) (fun z => absurd rfl z) (hsp _ (.inr ⟨_, vs.toArray, _, hk, rfl, rfl, rfl, ?_, ?_⟩))
    · rw [List.size_toArray, hi.length]; exact hl
    · simpa using rv
  | none =>
    let o : Obj := { cls := .type "list", data := .seq vs.toArray }
    have h1 : ∀ b, b = a → (fun b => if b = a then some (HO.frz o (.lst (ns.map V.int))) else none : Hp) b = some (HO.frz o (.lst (ns.map V.int))) := fun b e => if_pos e
    have h2 : ∀ b, b ≠ a → (fun b => if b = a then some (HO.frz o (.lst (ns.map V.int))) else none : Hp) b = none := fun b e => if_neg e
    generalize (fun b => if b = a then some (HO.frz o (.lst (ns.map V.int))) else none : Hp) = H at h1 h2
    refine law_core KX hns hb hbb hlim hg ha hr F hbind H (fun b => ?_) (fun b u z => ?_) (fun b z => ?_) (fun _ => hk) (hsp H (.inl (.inr ⟨o, h1 a rfl⟩)))
    · rcases Decidable.em (b = a) with e | e
      · exact .inr ⟨_, _, h1 b e⟩
      · exact .inl (h2 b e)
    · rcases Decidable.em (b = a) with e | e
      · rw [h1 b e] at z
        cases z
        subst e
        exact ⟨ha, by rw [List.length_map]; exact hl, vs, _, rv, ha⟩
      · rw [h2 b e] at z
        cases z
    · rcases Decidable.em (b = a) with e | e
      · exact e
      · exact absurd (h2 b e) z
end
theorem walkG {l : PySem.W.OpenLaw} {n k : Nat} {q : Program} {loose : List Str} {XP : (Str → Option Value) → Heap → Prop} {YP : World → Heap → Prop} {d : DefRec} {K : Params → PySem.W.Frag} {sp : PySem.W.Frag → Sp} {x : Str}
    (hn : l.most = some n) (hn2 : n ≤ sizeLine) (hdf : d.params.defaults = []) (hr : Room k callerA) (hY : ∀ (w : World) (h : Heap), YP w h → (K w.params).In h)
    (F : ∀ (w : World) (mg : Str → Option Value) (fa : Addr) (h : Heap), (K w.params).In h → h.Ns mainGlobals mg → mg d.name = some (.ref fa) →
      ∃ fd : FuncData, (∀ (s : Shared) (u : Value), BindsTo s fd ⟨[u], []⟩ [(x, u)]) ∧ ∀ base : Heap, (K w.params).In base → base.Ns mainGlobals mg → FnOkG l.prog w (K w.params) mg base CX0 k fa fd [x] (sp (K w.params)))
    (hsp : ∀ (K : PySem.W.Frag) (H : Hp) (a : Addr) (ns : List Int), ns.length ≤ n → (∀ z ∈ ns, Builtin.Int.intBits z ≤ 1048576) → SqL K H a (ns.map V.int) → sp K [.ref a] H (fun v _ => v = .bl true) fun _ _ _ => False) :
    PySem.W.WalkO q loose XP YP l.row.toRowW d [] (fun f vs => PySem.call f vs) := by
  refine Att.attach_callB hn hdf fun w s₀ s₁ mg mb fa o pm cd doc a vs ns G Y ho hd hcd hmg hobj hints hlen hbits hg => ?_
  obtain ⟨fd, hb, hF⟩ := F w mg fa _ (hY w _ Y) G.T.g hmg
  exact law_run (hY w _ Y) G.T.g G.T.b G.T.builtins G.T.nolimit hg hobj hints (Nat.le_trans hlen hn2) hr hF hb fun H hS => hsp _ H a ns hlen hbits hS
end KX

namespace KX
open PySem PySem.Spec L2
open PyProof.Rows hiding St
/-! the store of draws that every law has -/
def supD (c : Addr) (t b : Int) : List (Key × V) := [(.inr "cells", .ref c), (.inr "turn", .int t), (.inr "blend", .int b)]
theorem kne {x y : Str} (h : x ≠ y) : decide ((Sum.inr x : Key) = Sum.inr y) = false := decide_eq_false fun q => h (Sum.inr.inj q)
theorem keq (x : Str) : decide ((Sum.inr x : Key) = Sum.inr x) = true := decide_eq_true rfl
theorem n1 : ("cells" : Str) ≠ "turn" := by decide +kernel
theorem n2 : ("cells" : Str) ≠ "blend" := by decide +kernel
theorem n3 : ("turn" : Str) ≠ "blend" := by decide +kernel
theorem sup_cells (c : Addr) (t b : Int) : valV (supD c t b) (.inr "cells") = some (.ref c) := by
  unfold valV supD; simp
theorem sup_turn (c : Addr) (t b : Int) : valV (supD c t b) (.inr "turn") = some (.int t) := by
  unfold valV supD; simp [n1]
theorem sup_blend (c : Addr) (t b : Int) : valV (supD c t b) (.inr "blend") = some (.int b) := by
  unfold valV supD; simp [n2, n3]
theorem sup_putT (c : Addr) (t b t' : Int) : putK (supD c t b) (.inr "turn") (.int t') = supD c t' b := by
  unfold supD; simp only [putK]; simp [n1, n3.symm]
theorem sup_putB (c : Addr) (t b b' : Int) : putK (supD c t b) (.inr "blend") (.int b') = supD c t b' := by
  unfold supD; simp only [putK]; simp [n2, n3]
theorem sup_make (c : Addr) (t b : Int) : mergeK [] (supD c t b) = supD c t b := by
  unfold supD mergeK; simp only [List.foldl, putK]; simp [n1, n2, n3]
structure Sup (H : Hp) (d c : Addr) : Prop where
  ex : ∃ (cells : List Int) (t b : Int), H d = some (.dK (supD c t b)) ∧ H c = some (.lst (cells.map V.int)) ∧ cells.length ≤ 63 ∧ 0 ≤ b ∧ b < 2147483647
theorem Sup.ne {H : Hp} {d c : Addr} (h : Sup H d c) : d ≠ c := by
  obtain ⟨_, _, _, h1, h2, _⟩ := h.ex
  exact ne_of h1 h2 (fun z => nomatch z)
/-- all but d and c is as it was -/
def SameX (H H' : Hp) (d c : Addr) : Prop := ∀ b o, b ≠ d → b ≠ c → H b = some o → H' b = some o
theorem SameX.refl (H : Hp) (d c : Addr) : SameX H H d c := fun _ _ _ _ h => h
theorem SameX.trans {H H1 H2 : Hp} {d c : Addr} (a : SameX H H1 d c) (b : SameX H1 H2 d c) : SameX H H2 d c := fun x o h1 h2 h => b x o h1 h2 (a x o h1 h2 h)
theorem SameX.of {H H' : Hp} (d c : Addr) (h : Same H H') : SameX H H' d c := fun b o _ _ e => h b o e
theorem Sup.same {H H' : Hp} {d c : Addr} (h : Sup H d c) (s : Same H H') : Sup H' d c := by
  obtain ⟨cs, t, b, h1, h2, h3⟩ := h.ex
  exact ⟨cs, t, b, s _ _ h1, s _ _ h2, h3⟩
theorem Sup.upd {H : Hp} {d c l : Addr} {o : HO} (h : Sup H d c) (h1 : l ≠ d) (h2 : l ≠ c) : Sup (upd H l o) d c := by
  obtain ⟨cs, t, b, e1, e2, h3⟩ := h.ex
  exact ⟨cs, t, b, by rw [upd_ne h1.symm]; exact e1, by rw [upd_ne h2.symm]; exact e2, h3⟩
theorem Sup.hasD {H : Hp} {d c : Addr} (h : Sup H d c) : H d ≠ none := by
  obtain ⟨cs, t, b, h1, _⟩ := h.ex
  rw [h1]; exact nofun
theorem Sup.hasC {H : Hp} {d c : Addr} (h : Sup H d c) : H c ≠ none := by
  obtain ⟨cs, t, b, _, h1, _⟩ := h.ex
  rw [h1]; exact nofun
theorem same_new {H : Hp} {p : Addr} {o : HO} (h : H p = none) : Same H (upd H p o) := fun b u e => by rw [upd_ne (ne_of_none e h)]; exact e
/-- a draw: 0 ≤ r < m -/
def spTake : Sp := fun vs H Q _ => ∃ (d c : Addr) (m : Int), vs = [.ref d, .int m] ∧ Sup H d c ∧ 0 < m ∧ m < 2 ^ 62 ∧ ∀ (r : Int) (H' : Hp), 0 ≤ r → r < m → Sup H' d c → SameX H H' d c → Q (.int r) H'
/-- a list of at most 63 ints in, the store out -/
def spSupply (K : PySem.W.Frag) : Sp := fun vs H Q _ => ∃ (a : Addr) (ns : List Int), vs = [.ref a] ∧ SqL K H a (ns.map V.int) ∧ ns.length ≤ 63 ∧ ∀ (d c : Addr) (H' : Hp), H d = none → H c = none → Same H H' → Sup H' d c → Q (.ref d) H'
/-- some order of the items -/
def spStir (K : PySem.W.Frag) : Sp := fun vs H Q _ => ∃ (d c a : Addr) (ks : List Int), vs = [.ref d, .ref a] ∧ Sup H d c ∧ SqL K H a (ks.map V.int) ∧ ks.length ≤ 63 ∧
  ∀ (p : Addr) (H' : Hp) (ks' : List Int), ks'.Perm ks → Sup H' d c → SameX H H' d c → H p = none → H' p = some (.lst (ks'.map V.int)) → Q (.ref p) H'
/-- ascending keys -/
def KeysOk (ks : List Int) : Prop := ks.Pairwise (· < ·) ∧ ∀ k ∈ ks, 0 ≤ k ∧ k ≤ 1000000000000
def spKeys : Sp := fun vs H Q _ => ∃ (d c : Addr) (n : Nat), vs = [.ref d, .int (n : Int)] ∧ Sup H d c ∧ 1 ≤ n ∧ n ≤ 30 ∧
  ∀ (p : Addr) (H' : Hp) (ks : List Int), ks.length = n → KeysOk ks → Sup H' d c → SameX H H' d c → H p = none → H' p = some (.lst (ks.map V.int)) → Q (.ref p) H'
/-- a row -/
structure RowOk (row : List Int) : Prop where
  nd : row.Nodup
  key : ∀ k ∈ row, 0 ≤ k ∧ k ≤ 1000000000000
theorem RowOk.of {ks row : List Int} (h : KeysOk ks) (p : row.Perm ks) : RowOk row :=
  ⟨p.nodup_iff.mpr (h.1.imp fun {a b} q => Int.ne_of_lt q), fun k hk => h.2 k (p.mem_iff.mp hk)⟩
def spRow : Sp := fun vs H Q _ => ∃ (d c : Addr) (n : Nat), vs = [.ref d, .int (n : Int)] ∧ Sup H d c ∧ 1 ≤ n ∧ n ≤ 29 ∧
  ∀ (p : Addr) (H' : Hp) (row : List Int), RowOk row → 1 ≤ row.length → row.length ≤ n → Sup H' d c → SameX H H' d c → H p = none → H' p = some (.tup (row.map V.int)) → Q (.ref p) H'
theorem frX {H H' : Hp} {d c b : Addr} (S' : Sup H' d c) (x : SameX H H' d c) (h : H' b = none) : H b = none := by
  cases e : H b with
  | none => rfl
  | some o =>
    rcases Decidable.em (b = d) with z | z
    · exact absurd h (z ▸ S'.hasD)
    · rcases Decidable.em (b = c) with z2 | z2
      · exact absurd h (z2 ▸ S'.hasC)
      · rw [x b o z z2 e] at h; cases h
theorem emod_in {a m : Int} (h : 0 < m) : 0 ≤ a % m ∧ a % m < m := ⟨Int.emod_nonneg a (by omega), Int.emod_lt_of_pos a h⟩
theorem nats62 {m : Int} (h0 : 0 < m) (h : m < 2 ^ 62) : m.natAbs < 2 ^ 62 := by omega
theorem len_pos_cut {xs : List V} : (xs ≠ [] → 0 < xs.length) := List.length_pos_iff.mpr
theorem sup_get {H : Hp} {d : Addr} {kvs : List (Key × V)} {x : Str} {v : V} (hd : H d = some (.dK kvs)) (e : valV kvs (.inr x) = some v) : DGet H d (.str x) (some v) := by
  have h := DGet.k (k := .inr x) hd
  rw [e] at h
  exact h
theorem sup_setT {H : Hp} {d c : Addr} {t b t' : Int} (hd : H d = some (.dK (supD c t b))) : DPut H d (.str "turn") (.int t') (upd H d (.dK (supD c t' b))) := by
  have h := DPut.k (k := .inr "turn") (v := .int t') hd (show 3 < sizeLine by decide)
  rw [sup_putT] at h
  exact h
theorem sup_setB {H : Hp} {d c : Addr} {t b b' : Int} (hd : H d = some (.dK (supD c t b))) : DPut H d (.str "blend") (.int b') (upd H d (.dK (supD c t b'))) := by
  have h := DPut.k (k := .inr "blend") (v := .int b') hd (show 3 < sizeLine by decide)
  rw [sup_putB] at h
  exact h
theorem ix_at {n j : Nat} (h : j < n) : ixN n ((j : Nat) : Int) = some j := by
  unfold ixN; simp; omega
theorem cut_ints (ns : List Int) (lo hi : Option Int) : ∃ ms : List Int, cutV (ns.map V.int) lo hi = ms.map V.int ∧ ms.length ≤ ns.length := by
  unfold cutV
  rw [← List.map_drop, ← List.map_take]
  exact ⟨_, rfl, by rw [List.length_take, List.length_drop]; omega⟩
theorem cut_nat (ks : List Int) (i j : Nat) : cutV (ks.map V.int) (some (i : Int)) (some (j : Int)) = ((ks.take j).drop i).map V.int := by
  unfold cutV
  rw [HT.sIx_nat, HT.sIx_nat, List.map_drop, List.map_take, List.length_map, List.drop_take]
  apply List.ext_getElem?
  intro m
  simp only [List.getElem?_take, List.getElem?_drop, List.getElem?_map]
  by_cases h1 : i ≤ ks.length
  · rw [Nat.min_eq_left h1]
    by_cases h2 : j ≤ ks.length
    · rw [Nat.min_eq_left h2]
    · rw [Nat.min_eq_right (by omega)]
      by_cases h3 : m < ks.length - i
      · rw [if_pos h3, if_pos (by omega)]
      · rw [if_neg h3]
        by_cases h4 : m < j - i
        · rw [if_pos h4, List.getElem?_eq_none (by omega)]; rfl
        · rw [if_neg h4]
  · rw [Nat.min_eq_right (show ks.length ≤ i by omega), if_neg (by omega)]
    by_cases h4 : m < j - i
    · rw [if_pos h4, List.getElem?_eq_none (by omega)]; rfl
    · rw [if_neg h4]
theorem cut_from (ks : List Int) (i : Nat) : cutV (ks.map V.int) (some (i : Int)) none = (ks.drop i).map V.int := by
  have h := cut_nat ks i ks.length
  unfold cutV at h ⊢
  rw [HT.sIx_nat, List.length_map] at h
  rw [HT.sIx_none, List.length_map]
  rw [List.take_length, HT.sIx_nat, Nat.min_self] at h
  rw [HT.sIx_nat]
  exact h
theorem cut_to (ks : List Int) (j : Nat) : cutV (ks.map V.int) none (some (j : Int)) = (ks.take j).map V.int := by
  have h := cut_nat ks 0 j
  rw [List.drop_zero] at h
  unfold cutV at h ⊢
  rw [HT.sIx_none]
  rw [HT.sIx_nat (k := 0), Nat.zero_min] at h
  exact h
theorem pick_ints (ks : List Int) (lo hi st : Option Int) : pickV (ks.map V.int) lo hi st = ((sliceRange (sliceBounds lo hi st ks.length).1 (sliceBounds lo hi st ks.length).2.1 (sliceBounds lo hi st ks.length).2.2).filterMap (ks[·]?)).map V.int := by
  unfold pickV
  rw [List.length_map, List.map_filterMap]
  congr 1
  funext j
  rw [List.getElem?_map]
theorem idx_perm : ∀ n < 31, ((sliceRange (sliceBounds (some 1) none (some 2) n).1 (sliceBounds (some 1) none (some 2) n).2.1 (sliceBounds (some 1) none (some 2) n).2.2 ++
    sliceRange (sliceBounds (some 0) none (some 2) n).1 (sliceBounds (some 0) none (some 2) n).2.1 (sliceBounds (some 0) none (some 2) n).2.2).isPerm (List.range n)) = true := by decide +kernel
theorem range_all (ks : List Int) : (List.range ks.length).filterMap (ks[·]?) = ks := by
  have h : ∀ n, n ≤ ks.length → (List.range n).filterMap (ks[·]?) = ks.take n := by
    intro n
    induction n with
    | zero => intro _; rfl
    | succ n ih =>
      intro hn
      have e : ks[n]? = some ks[n] := List.getElem?_eq_getElem (by omega)
      rw [List.range_succ, List.filterMap_append, ih (by omega), List.filterMap_cons_some e, List.filterMap_nil, List.take_add_one, e]; rfl
  rw [h _ (Nat.le_refl _), List.take_length]
theorem odd_even (ks : List Int) (h : ks.length ≤ 30) : ∃ row : List Int, pickV (ks.map V.int) (some 1) none (some 2) ++ pickV (ks.map V.int) (some 0) none (some 2) = row.map V.int ∧ row.Perm ks := by
  rw [pick_ints, pick_ints, ← List.map_append, ← List.filterMap_append]
  refine ⟨_, rfl, ?_⟩
  have p := (List.isPerm_iff.mp (idx_perm ks.length (by omega))).filterMap (ks[·]?)
  rw [range_all] at p
  exact p
theorem mid_perm (ks : List Int) (j : Nat) : ((ks.take j ++ ((ks.take (j + 3)).drop j).reverse) ++ ks.drop (j + 3)).Perm ks := by
  have e : (ks.take j ++ (ks.take (j + 3)).drop j) ++ ks.drop (j + 3) = ks := by
    have h1 : ks.take j ++ (ks.take (j + 3)).drop j = ks.take (j + 3) := by
      have h2 := List.take_append_drop j (ks.take (j + 3))
      rw [List.take_take, Nat.min_eq_left (by omega)] at h2
      exact h2
    rw [h1, List.take_append_drop]
  have p : ((ks.take j ++ ((ks.take (j + 3)).drop j).reverse) ++ ks.drop (j + 3)).Perm ((ks.take j ++ (ks.take (j + 3)).drop j) ++ ks.drop (j + 3)) :=
    (List.Perm.append_left _ (List.reverse_perm _)).append_right _
  rw [e] at p
  exact p
/-- a comprehension over reversed(t), t a tuple -/
theorem lc_rt {K : PySem.W.Frag} {a : Addr} {xs : List V} {g : TG} {tt : TT} {te : TE} {vs : List Nat} {σ : L2.St} {H1 : Hp} {D : Addr} {Qd : Hp → Prop} (Pv : Nat → Hp → Prop) (h0 : Pv 0 (upd H1 D (.lst []))) (hl : ∀ i H, i ≤ xs.length → Pv i H → SqT K H a xs)
    (hs : ∀ i x H, i < xs.length → xs[xs.length - 1 - i]? = some x → Pv i H → g x (wipe σ vs) H fun σ2 H2 => wipe σ2 vs = wipe σ vs ∧ tt σ2 H2 fun b H3 =>
      if b = true then te σ2 H3 fun y H4 => ∃ acc, H4 D = some (.lst acc) ∧ acc.length < sizeLine ∧ Pv (i + 1) (upd H4 D (.lst (acc ++ [y]))) else Pv (i + 1) H3) (hd : ∀ H, Pv xs.length H → Qd H) :
    ∃ W : Nat → Nat → Hp → Prop, (∃ m, W 0 m (upd H1 D (.lst []))) ∧ ∀ i m H, W i m H →
      ((RT.ItvT K a xs.length).stop i H ∧ Qd H) ∨ ((RT.ItvT K a xs.length).go i H ∧ ∃ Nx : Hp → Prop, (∀ H', Nx H' → ∃ m', m' < m ∧ W (i + 1) m' H') ∧ ∀ x H', (RT.ItvT K a xs.length).yld i H x H' → g x (wipe σ vs) H' fun σ2 H2 => wipe σ2 vs = wipe σ vs ∧ tt σ2 H2 fun b H3 =>
        if b = true then te σ2 H3 fun y H4 => ∃ acc, H4 D = some (.lst acc) ∧ acc.length < sizeLine ∧ Nx (upd H4 D (.lst (acc ++ [y]))) else Nx H3) := by
  refine ⟨fun i m H => m = xs.length - i ∧ i ≤ xs.length ∧ Pv i H, ⟨_, rfl, Nat.zero_le _, h0⟩, ?_⟩
  rintro i m H ⟨rfl, hi, p⟩
  rcases Nat.lt_or_ge i xs.length with lt | ge
  · have q := hl i H hi p
    have e : xs[xs.length - 1 - i]? = some xs[xs.length - 1 - i] := List.getElem?_eq_getElem (by omega)
    refine .inr ⟨⟨lt, xs, _, q, e⟩, Pv (i + 1), fun H' p' => ⟨xs.length - (i + 1), by omega, rfl, lt, p'⟩, ?_⟩
    rintro x H' ⟨rfl, hx⟩
    exact hs i x H' lt (hx xs q) p
  · obtain rfl : i = xs.length := by omega
    exact .inl ⟨ge, hd H p⟩
theorem sameT {K : PySem.W.Frag} {H H' : Hp} {a : Addr} {xs : List V} (e : Same H H') (h : SqT K H a xs) : SqT K H' a xs := by
  rcases h with (h | ⟨o, h⟩) | h
  · exact .inl (.inl (e _ _ h))
  · exact .inl (.inr ⟨o, e _ _ h⟩)
  · exact .inr h
/-- len of a list or tuple -/
def rLenQ (K : PySem.W.Frag) : List V → Hp → VK → Prop := fun xs H Q => ∃ p ys, xs = [.ref p] ∧ (SqL K H p ys ∨ SqT K H p ys) ∧ Q (.int ys.length) H
/-- a pure function of a row -/
def spRowFn (K : PySem.W.Frag) (f : List Int → List Int) : Sp := fun vs H Q _ => ∃ (a : Addr) (row : List Int), vs = [.ref a] ∧ SqT K H a (row.map V.int) ∧ RowOk row ∧ row.length ≤ 29 ∧
  ∀ (p : Addr) (H' : Hp), Same H H' → H p = none → H' p = some (.tup ((f row).map V.int)) → Q (.ref p) H'
theorem getI {ns : List Int} {i : Nat} {y : V} (h : (ns.map V.int)[i]? = some y) : ∃ z, ns[i]? = some z ∧ y = V.int z ∧ i < ns.length := by
  rw [List.getElem?_map] at h
  cases e : ns[i]? with
  | none => rw [e] at h; cases h
  | some z => rw [e] at h; exact ⟨z, rfl, (Option.some.inj h).symm, (List.getElem?_eq_some_iff.mp e).1⟩
theorem take_step {α : Type} {xs : List α} {i : Nat} {x : α} (h : xs[i]? = some x) : xs.take (i + 1) = xs.take i ++ [x] := by
  rw [List.take_add_one, h]; rfl
/-- all that was there stays, at D stands a list -/
def At (H1 H : Hp) (D : Addr) (ys : List V) : Prop := Same H1 H ∧ H D = some (.lst ys)
theorem At.nil {H1 : Hp} {D : Addr} (h : H1 D = none) : At H1 (upd H1 D (.lst [])) D [] := ⟨same_new h, upd_same⟩
theorem At.push {H1 H : Hp} {D : Addr} {ys : List V} (h : H1 D = none) (a : At H1 H D ys) (zs : List V) : At H1 (upd H D (.lst zs)) D zs :=
  ⟨fun b o e => by rw [upd_ne (ne_of_none e h)]; exact a.1 b o e, upd_same⟩
theorem erase_map {α β : Type} (f : α → β) : ∀ (xs : List α) (j : Nat), (xs.map f).eraseIdx j = (xs.eraseIdx j).map f
  | [], _ => rfl
  | _ :: _, 0 => rfl
  | x :: xs, j + 1 => congrArg (f x :: ·) (erase_map f xs j)
theorem erase_perm {α : Type} : ∀ (xs : List α) (j : Nat) (h : j < xs.length), (xs[j] :: xs.eraseIdx j).Perm xs
  | x :: xs, 0, _ => List.Perm.refl _
  | x :: xs, j + 1, h => (List.Perm.swap x _ _).trans ((erase_perm xs j (Nat.lt_of_succ_lt_succ h)).cons x)
/-- data of ints -/
theorem dp_ints {K : PySem.W.Frag} {H : Hp} : ∀ ns : List Int, DpAll K H (ns.map V.int) (ns.map PyData.int)
  | [] => .nil
  | n :: ns => .cons (.int n) (dp_ints ns)
theorem canLay_ints : ∀ ns : List Int, PyData.canLayAll0 (ns.map PyData.int) = true
  | [] => rfl
  | n :: ns => by simp only [List.map_cons, PyData.canLayAll0, PyData.canLay0, canLay_ints ns, Bool.and_self]
theorem depth_ints : ∀ ns : List Int, PyData.depthAll (ns.map PyData.int) = 0
  | [] => rfl
  | n :: ns => by simp only [List.map_cons, PyData.depthAll, PyData.depth, depth_ints ns, Nat.max_self]
theorem shaped_ints (ns : List Int) : SeqAt.shaped (.list (ns.map PyData.int)) = true := by
  simp [SeqAt.shaped, PyData.canLay0, canLay_ints, PyData.depth, depth_ints]
theorem shaped_tints (ns : List Int) : SeqAt.shaped (.tuple (ns.map PyData.int)) = true := by
  simp [SeqAt.shaped, PyData.canLay0, canLay_ints, PyData.depth, depth_ints]
theorem eqv_ints (ns ms : List Int) : PyData.eqv (.list (ns.map PyData.int)) (.list (ms.map PyData.int)) = decide (ns = ms) := by
  simp only [PyData.eqv]; exact PySem.W.ked_eqvAll ns ms
theorem eqv_tints (ns ms : List Int) : PyData.eqv (.tuple (ns.map PyData.int)) (.tuple (ms.map PyData.int)) = decide (ns = ms) := by
  simp only [PyData.eqv]; exact PySem.W.ked_eqvAll ns ms
/-- a list of ints against [], as data -/
theorem nonempty_data {K : PySem.W.Frag} {H : Hp} {a e : Addr} {ns : List Int} {Q : VK} (h1 : SqL K H a (ns.map V.int)) (h2 : SqL K H e []) (q : Q (.bl (!decide (ns = []))) H) : rNeD K (.ref a) (.ref e) H Q := by
  refine ⟨.list (ns.map PyData.int), .list [], .lst h1 (dp_ints ns), .lst h2 .nil, shaped_ints ns, shaped_ints [], ?_⟩
  rw [show PyData.eqv (.list (ns.map PyData.int)) (.list []) = decide (ns = []) from eqv_ints ns []]
  exact q
/-- the last two rows of a draw -/
def tLastDraw : TS := tSeq (sDPut (tVar 0) (tC (V.str "blend"))
    (tOp (rI (fun _ j => 0 < j) fun i j => V.int (i % j)) (tOp (rI0 fun i j => V.int (i + j)) (tOp (rI0 fun i j => V.int (i + j)) (tOp (rI CMul fun i j => V.int (i * j)) (tDGet (tVar 0) (tC (V.str "blend"))) (tC (V.int 48271)))
      (tOp (rI CMul fun i j => V.int (i * j)) (tC (V.int 11)) (tVar 3))) (tC (V.int 5))) (tC (V.int 2147483647))))
  (tRet (tOp (rI (fun _ j => 0 < j) fun i j => V.int (i % j)) (tOp (rI CDiv fun i j => V.int (i / j)) (tOp (rI (fun _ j => 0 < j) fun i j => V.int (i % j))
    (tOp (rI CMul fun i j => V.int (i * j)) (tDGet (tVar 0) (tC (V.str "blend"))) (tDGet (tVar 0) (tC (V.str "blend")))) (tC (V.int 2147483629))) (tC (V.int 32))) (tVar 1)))
theorem last_run {D : Ends} {H H2 : Hp} {d c : Addr} {m t u b2 : Int} {x4 x5 : Option V} {cells : List Int} (hm0 : 0 < m) (hd : H2 d = some (.dK (supD c u b2))) (hc : H2 c = some (.lst (cells.map V.int))) (hl : cells.length ≤ 63) (sx : SameX H H2 d c) (hb0 : 0 ≤ b2) (hb : b2 < 2147483647)
    (k : ∀ (r : Int) (H' : Hp), 0 ≤ r → r < m → Sup H' d c → SameX H H' d c → D.rt (.int r) H') : tLastDraw D [some (.ref d), some (.int m), some (.ref c), some (.int t), x4, x5] H2 := by
  have ndc : d ≠ c := ne_of hd hc (fun z => nomatch z)
  refine ⟨_, rfl, d, _, rfl, sup_get hd (sup_blend c u b2), _, _, rfl, rfl, .inl ⟨by omega, by omega⟩, _, rfl, _, _, rfl, rfl, .inl ⟨by decide, by decide⟩, _, _, rfl, rfl, _, _, rfl, rfl, _, _, rfl, rfl, (by show (0 : Int) < 2147483647; decide), _, rfl, d, _, rfl, sup_setB hd, ?_⟩
  have hb1 := emod_in (a := b2 * 48271 + 11 * t + 5) (m := 2147483647) (by decide)
  generalize (b2 * 48271 + 11 * t + 5) % 2147483647 = b3 at hb1 ⊢
  have hd3 : upd H2 d (.dK (supD c u b3)) d = some (.dK (supD c u b3)) := upd_same
  have hc3 : upd H2 d (.dK (supD c u b3)) c = some (.lst (cells.map V.int)) := by rw [upd_ne ndc.symm]; exact hc
  have sx3 : SameX H (upd H2 d (.dK (supD c u b3))) d c := fun x o h1 h2 e => by rw [upd_ne h1]; exact sx x o h1 h2 e
  refine ⟨_, rfl, d, _, rfl, sup_get hd3 (sup_blend c u b3), _, rfl, d, _, rfl, sup_get hd3 (sup_blend c u b3), _, _, rfl, rfl, .inl ⟨by omega, by omega⟩, _, _, rfl, rfl, (by show (0 : Int) < 2147483629; decide), _, _, rfl, rfl, ⟨by decide, by decide⟩, _, rfl, _, _, rfl, rfl, hm0, ?_⟩
  exact k _ _ (emod_in hm0).1 (emod_in hm0).2 ⟨cells, u, b3, hd3, hc3, hl, hb1.1, hb1.2⟩ sx3
end KX

namespace KX
open PySem PySem.Spec L2
open PyProof.Rows hiding St
/-! data that repr shows -/
structure FineD (d : PyData) (dep B : Nat) : Prop where
  nd : d.hasDict = false
  sh : d.showable = true
  dp : d.depth ≤ dep
  sz : d.shown.length ≤ B
theorem FineD.int {i : Int} (h : i.natAbs < 10 ^ 13) : FineD (.int i) 0 14 := by
  refine ⟨rfl, ?_, Nat.le_refl _, ?_⟩
  · simp only [PyData.showable, decide_eq_true_eq]
    have h2 : i.natAbs < 2 ^ 1920 := Nat.lt_trans h (by decide)
    rcases Nat.eq_zero_or_pos i.natAbs with z | z
    · rw [z]; decide
    · exact (Nat.log2_lt (by omega)).mpr h2
  · show (Str.ofString (toString i)).length ≤ 14
    rw [PySem.ofString_length]; exact int_text_length_le10 (k := 13) (by decide) h
theorem FineD.bool (b : Bool) : FineD (.bool b) 0 5 := ⟨rfl, rfl, Nat.le_refl _, by cases b <;> decide⟩
theorem FineD.none : FineD .none 0 4 := ⟨rfl, rfl, Nat.le_refl _, by decide⟩
theorem FineD.mono {d : PyData} {n m A B : Nat} (h : FineD d n A) (h1 : n ≤ m) (h2 : A ≤ B) : FineD d m B := ⟨h.nd, h.sh, Nat.le_trans h.dp h1, Nat.le_trans h.sz h2⟩
theorem fine_all {dep B : Nat} : ∀ {ds : List PyData}, (∀ d ∈ ds, FineD d dep B) → PyData.hasDictAll ds = false ∧ PyData.showableAll ds = true ∧ PyData.depthAll ds ≤ dep ∧ ((PyData.shownAll ds).map (·.length)).sum ≤ ds.length * B ∧ (PyData.shownAll ds).length = ds.length
  | [], _ => ⟨rfl, rfl, Nat.zero_le _, Nat.zero_le _, rfl⟩
  | d :: ds, h => by
    obtain ⟨a1, a2, a3, a4, a5⟩ := fine_all (ds := ds) fun x hx => h x (List.mem_cons_of_mem _ hx)
    have hd := h d List.mem_cons_self
    refine ⟨by simp only [PyData.hasDictAll, hd.nd, a1, Bool.or_self], by simp only [PyData.showableAll, hd.sh, a2, Bool.and_self], ?_, ?_, by simp only [PyData.shownAll, List.length_cons, a5]⟩
    · simp only [PyData.depthAll]; exact Nat.max_le.mpr ⟨hd.dp, a3⟩
    · simp only [PyData.shownAll, List.map_cons, List.sum_cons, List.length_cons]
      have := hd.sz
      rw [Nat.add_mul]; omega
theorem FineD.tup {ds : List PyData} {dep B : Nat} (h : ∀ d ∈ ds, FineD d dep B) : FineD (.tuple ds) (dep + 1) (ds.length * (B + 2) + 3) := by
  obtain ⟨a1, a2, a3, a4, a5⟩ := fine_all h
  refine ⟨by simp only [PyData.hasDict, a1], by simp only [PyData.showable, a2], by simp only [PyData.depth]; omega, ?_⟩
  have := tupleText_len_le (PyData.shownAll ds)
  rw [a5] at this
  simp only [PyData.shown]
  rw [Nat.mul_add]; omega
theorem FineD.lst {ds : List PyData} {dep B : Nat} (h : ∀ d ∈ ds, FineD d dep B) : FineD (.list ds) (dep + 1) (ds.length * (B + 2) + 3) := by
  obtain ⟨a1, a2, a3, a4, a5⟩ := fine_all h
  refine ⟨by simp only [PyData.hasDict, a1], by simp only [PyData.showable, a2], by simp only [PyData.depth]; omega, ?_⟩
  have := listText_len_le (PyData.shownAll ds)
  rw [a5] at this
  simp only [PyData.shown]
  rw [Nat.mul_add]; omega
/-- a tuple of few small ints -/
theorem fine_row {ns : List Int} (hl : ns.length ≤ 60) (h : ∀ k ∈ ns, k.natAbs < 10 ^ 13) : FineD (.tuple (ns.map PyData.int)) 1 1000 := by
  have := FineD.tup (ds := ns.map PyData.int) (dep := 0) (B := 14) fun d hd => by
    obtain ⟨k, hk, rfl⟩ := List.mem_map.mp hd
    exact .int (h k hk)
  rw [List.length_map] at this
  exact this.mono (Nat.le_refl _) (by omega)
theorem rRepr_of {K : PySem.W.Frag} {H : Hp} {v : V} {d : PyData} {dep B : Nat} {Q : VK} (h : Dp K H v d) (f : FineD d dep B) (h1 : dep ≤ 60) (h2 : B ≤ sizeLine) (q : Q (.str d.shown) H) : rRepr K [v] H Q :=
  ⟨v, d, rfl, h, f.nd, f.sh, Nat.le_trans f.dp h1, Nat.le_trans f.sz h2, q⟩
theorem RowOk.small {row : List Int} (h : RowOk row) : ∀ k ∈ row, k.natAbs < 10 ^ 13 := fun k hk => by
  have := h.key k hk
  omega
end KX

namespace KX
open PySem PySem.Spec L2
open PyProof.Rows hiding St
/-! data with small dicts in it -/
def kvA (kvs : List (Str × Int)) : List (Key × V) := kvs.map fun p => (.inr p.1, .int p.2)
def kvD (kvs : List (Str × Int)) : List (PyData × PyData) := kvs.map fun p => (.str p.1, .int p.2)
mutual
inductive Dq (K : PySem.W.Frag) (H : Hp) : V → PyData → Prop
  | non : Dq K H .non .none
  | bl (b : Bool) : Dq K H (.bl b) (.bool b)
  | int (i : Int) : Dq K H (.int i) (.int i)
  | str (x : Str) : Dq K H (.str x) (.str x)
  | lst {a : Addr} {xs : List V} {ds : List PyData} : SqL K H a xs → DqAll K H xs ds → Dq K H (.ref a) (.list ds)
  | tup {a : Addr} {xs : List V} {ds : List PyData} : SqT K H a xs → DqAll K H xs ds → Dq K H (.ref a) (.tuple ds)
  | dct {a : Addr} {kvs : List (Str × Int)} : H a = some (.dK (kvA kvs)) → Dq K H (.ref a) (.dict (kvD kvs))
inductive DqAll (K : PySem.W.Frag) (H : Hp) : List V → List PyData → Prop
  | nil : DqAll K H [] []
  | cons {v : V} {vs : List V} {d : PyData} {ds : List PyData} : Dq K H v d → DqAll K H vs ds → DqAll K H (v :: vs) (d :: ds)
end
mutual
theorem Dq.same {K : PySem.W.Frag} {H H' : Hp} (s : Same H H') : ∀ {v : V} {d : PyData}, Dq K H v d → Dq K H' v d
  | _, _, .non => .non
  | _, _, .bl b => .bl b
  | _, _, .int i => .int i
  | _, _, .str x => .str x
  | _, _, .lst h a => .lst (s.seq h) (DqAll.same s a)
  | _, _, .tup h a => .tup (sameT s h) (DqAll.same s a)
  | _, _, .dct h => .dct (s _ _ h)
theorem DqAll.same {K : PySem.W.Frag} {H H' : Hp} (s : Same H H') : ∀ {vs : List V} {ds : List PyData}, DqAll K H vs ds → DqAll K H' vs ds
  | _, _, .nil => .nil
  | _, _, .cons h t => .cons (Dq.same s h) (DqAll.same s t)
end
theorem dq_ints {K : PySem.W.Frag} {H : Hp} : ∀ ns : List Int, DqAll K H (ns.map V.int) (ns.map PyData.int)
  | [] => .nil
  | n :: ns => .cons (.int n) (dq_ints ns)
section
variable {X : Cx} {pins : List (Addr × Obj)} {σ : L2.St} {H : Hp} {s : Shared}
/-- the entries of such a dict -/
theorem entries_of : ∀ {kvs : List (Str × Int)} {vs : List (Key × Value)} {es : List DictEntry}, KV (kvA kvs) vs → Pairs (mixKind X.prog X.w) es vs →
    Paired (fun (p : Str × Int) (e : DictEntry) => (∃ t, e.key = .str p.1 t) ∧ ∃ t, e.val = .int p.2 t) kvs es
  | [], _, _, r, q => by
    cases r
    cases q
    exact .nil
  | p :: kvs, _, _, r, q => by
    cases r with
    | cons h t =>
      cases q with
      | cons h1 h2 h3 =>
        obtain ⟨e1, tv, e2⟩ := h
        refine .cons ⟨?_, tv, h2.trans e2⟩ (entries_of t h3)
        rw [← e1] at h1
        exact Value.isStrOf_shape h1
theorem keys_read {h : Heap} : ∀ {kvs : List (Str × Int)} {es : List DictEntry}, Paired (fun (p : Str × Int) (e : DictEntry) => (∃ t, e.key = .str p.1 t) ∧ ∃ t, e.val = .int p.2 t) kvs es →
    ReadsAll h (es.map (·.key)) ((kvD kvs).map (·.1)) [] ∧ ReadsAll h (es.map (·.val)) ((kvD kvs).map (·.2)) []
  | _, _, .nil => ⟨.nil, .nil⟩
  | _, _, .cons ⟨⟨t, h1⟩, ⟨u, h2⟩⟩ r => by
    obtain ⟨q1, q2⟩ := keys_read r
    refine ⟨?_, ?_⟩
    · exact .cons (as := []) (bs := []) (Eq.mpr (congrArg (fun z => Reads h z _ []) h1) (.str _ t)) q1
    · exact .cons (as := []) (bs := []) (Eq.mpr (congrArg (fun z => Reads h z _ []) h2) (.int _ u)) q2
/-- the object of such a dict -/
theorem dict_obj (I : Inv X pins σ H s) {a : Addr} {kvs : List (Str × Int)} (h : H a = some (.dK (kvA kvs))) :
    ∃ o es n, s.heap.get? a = some o ∧ o.cls = .type "dict" ∧ o.data = .dict es n ∧ (a == sysModules) = false ∧ ReadsAll s.heap (es.toList.map (·.key)) ((kvD kvs).map (·.1)) [] ∧ ReadsAll s.heap (es.toList.map (·.val)) ((kvD kvs).map (·.2)) [] := by
  obtain ⟨_, hsys, vs, r, o, es, ep, h1, h2, h3, _, h4, _⟩ := dk_of I.hok h
  obtain ⟨q1, q2⟩ := keys_read (h := s.heap) (entries_of r h4)
  exact ⟨o, es, ep, h1, h2.1, h3, hsys, q1, q2⟩
mutual
theorem Dq.reads (I : Inv X pins σ H s) : ∀ (d : PyData) (v : V) (u : Value), Dq X.K H v d → RelV v u → ∃ as, Reads s.heap u d as
  | .none, _, _, h, r => by cases h; cases r; exact ⟨_, .none⟩
  | .bool b, _, _, h, r => by cases h; cases r; exact ⟨_, .bool b⟩
  | .int i, _, _, h, r => by cases h; obtain ⟨t, rfl⟩ := r; exact ⟨_, .int i t⟩
  | .str x, _, _, h, r => by cases h; obtain ⟨t, rfl⟩ := r; exact ⟨_, .str x t⟩
  | .list ds, _, _, h, r => by
    cases h with
    | lst hs ha =>
      cases r
      obtain ⟨its, rv, ⟨o, n, ho, hc, _, hd⟩, _⟩ := I.list hs
      obtain ⟨as, hr⟩ := DqAll.reads I ds _ its ha rv
      exact ⟨_, .list ho hc hd hr⟩
  | .tuple ds, _, _, h, r => by
    cases h with
    | tup hs ha =>
      cases r
      obtain ⟨its, rv, ⟨o, ho, hc, n, hd⟩, _⟩ := I.tuple hs
      obtain ⟨as, hr⟩ := DqAll.reads I ds _ its ha rv
      exact ⟨_, .tuple ho hc hd hr⟩
  | .dict kd, _, _, h, r => by
    cases h with
    | dct h =>
      cases r
      obtain ⟨o, es, n, h1, h2, h3, _, q1, q2⟩ := dict_obj I h
      exact ⟨_, .dict h1 h2 h3 q1 q2⟩
theorem DqAll.reads (I : Inv X pins σ H s) : ∀ (ds : List PyData) (vs : List V) (us : List Value), DqAll X.K H vs ds → Vals vs us → ∃ as, ReadsAll s.heap us ds as
  | [], _, _, h, r => by cases h; cases r; exact ⟨_, .nil⟩
  | d :: ds, _, _, h, r => by
    cases h with
    | cons h1 h2 =>
      cases r with
      | cons r1 r2 =>
        obtain ⟨as, q1⟩ := Dq.reads I d _ _ h1 r1
        obtain ⟨bs, q2⟩ := DqAll.reads I ds _ _ h2 r2
        exact ⟨_, .cons q1 q2⟩
end
/-- no dict in it: the library's way -/
theorem reprK_flat {h : Heap} {prog : Program} {w : World} {v : Value} {d : PyData} {as : List Addr} (r : Reads h v d as) (hn : d.hasDict = false) (hs : d.showable = true) (hz : d.shown.length ≤ sizeLine) : ∃ bs, ReadAtMost h d.depth bs ∧ ReprK prog w bs h d.depth v d.shown :=
  ReprK.of_reads r hs (PyData.noDict_hsm hn) hz
theorem dict_reprs (I : Inv X pins σ H s) {a : Addr} {kvs : List (Str × Int)} (h : H a = some (.dK (kvA kvs))) (hs : (PyData.dict (kvD kvs)).showable = true) (hz : (PyData.dict (kvD kvs)).shown.length ≤ sizeLine) :
    ∃ o es n, s.heap.get? a = some o ∧ o.cls = .type "dict" ∧ o.data = .dict es n ∧ (a == sysModules) = false ∧ ∃ bs, ReadAtMost s.heap (PyData.depthKv (kvD kvs)) bs ∧ ReprEntriesK X.prog X.w bs s.heap (PyData.depthKv (kvD kvs)) es.toList (PyData.shownKv (kvD kvs)) ∧ ∃ as, Reads s.heap (.ref a) (.dict (kvD kvs)) as := by
  obtain ⟨o, es, n, h1, h2, h3, hsys, q1, q2⟩ := dict_obj I h
  have hz' : (dictText (PyData.shownKv (kvD kvs))).length ≤ sizeLine := by simpa only [PyData.shown] using hz
  obtain ⟨hs1, hs2⟩ := PyData.showableKv_split (kvD kvs) (by simpa [PyData.showable] using hs)
  have flat : ∀ (f : Str × Int → PyData), (∀ p, (f p).hasDict = false) → ∀ l : List (Str × Int), PyData.hasDictAll (l.map f) = false := fun f hf l => by
    induction l with
    | nil => rfl
    | cons p l ih => simp only [List.map_cons, PyData.hasDictAll, hf, ih, Bool.or_self]
  have n1 : PyData.hasDictAll ((kvD kvs).map (·.1)) = false := by unfold kvD; rw [List.map_map]; exact flat _ (fun _ => rfl) kvs
  have n2 : PyData.hasDictAll ((kvD kvs).map (·.2)) = false := by unfold kvD; rw [List.map_map]; exact flat _ (fun _ => rfl) kvs
  obtain ⟨b1, hb1, k1⟩ := ReprAllK.of_readsAll (prog := X.prog) (w := X.w) q1 hs1 (fun z => by rw [n1] at z; cases z) (fun t ht => by
    obtain ⟨p, hp, hl⟩ := PyData.shownKv_key_le (kvD kvs) t ht
    exact Nat.le_trans hl (Nat.le_trans (dictText_mem_le hp) hz'))
  obtain ⟨b2, hb2, k2⟩ := ReprAllK.of_readsAll (prog := X.prog) (w := X.w) q2 hs2 (fun z => by rw [n2] at z; cases z) (fun t ht => by
    obtain ⟨p, hp, hl⟩ := PyData.shownKv_val_le (kvD kvs) t ht
    exact Nat.le_trans hl (Nat.le_trans (dictText_mem_le hp) hz'))
  refine ⟨o, es, n, h1, h2, h3, hsys, b1 ++ b2, (hb1.mono (PyData.depthAll_keys_le _)).append (hb2.mono (PyData.depthAll_vals_le _)), ?_, _, .dict h1 h2 h3 q1 q2⟩
  rw [PyData.shownKv_eq]
  exact ReprEntriesK.of_two _ _ _ (k1.more_le (fun _ z => List.mem_append_left _ z) (PyData.depthAll_keys_le _)) (k2.more_le (fun _ z => List.mem_append_right _ z) (PyData.depthAll_vals_le _))
mutual
theorem Dq.reprs (I : Inv X pins σ H s) : ∀ (d : PyData) (v : V) (u : Value), Dq X.K H v d → RelV v u → d.showable = true → d.shown.length ≤ sizeLine → ∃ bs, ReadAtMost s.heap d.depth bs ∧ ReprK X.prog X.w bs s.heap d.depth u d.shown
  | .none, v, u, h, r, hs, hz => by obtain ⟨as, q⟩ := Dq.reads I _ _ _ h r; exact reprK_flat q rfl hs hz
  | .bool b, v, u, h, r, hs, hz => by obtain ⟨as, q⟩ := Dq.reads I _ _ _ h r; exact reprK_flat q rfl hs hz
  | .int i, v, u, h, r, hs, hz => by obtain ⟨as, q⟩ := Dq.reads I _ _ _ h r; exact reprK_flat q rfl hs hz
  | .str x, v, u, h, r, hs, hz => by obtain ⟨as, q⟩ := Dq.reads I _ _ _ h r; exact reprK_flat q rfl hs hz
  | .list ds, v, u, h, r, hs, hz => by
    cases h with
    | @lst a xs ds hl ha =>
      cases r
      obtain ⟨its, rv, ⟨o, n, ho, hc, _, hd⟩, _⟩ := I.list hl
      obtain ⟨as, hr⟩ := DqAll.reads I ds _ its ha rv
      obtain ⟨bs, hb, hk⟩ := DqAll.reprs I ds _ its ha rv (by simpa [PyData.showable] using hs) fun t ht => Nat.le_trans (listText_mem_le ht) (by simpa only [PyData.shown] using hz)
      have q : Reads s.heap (.ref a) (.list ds) _ := .list ho hc hd hr
      have hna : a ∉ bs := not_mem_of_deeper q (by simp only [PyData.depth]; omega) hb
      refine ⟨a :: bs, .cons q (by simp only [PyData.depth]; omega) hb, ?_⟩
      simp only [PyData.depth, PyData.shown]
      cases its with
      | nil =>
        cases rv
        cases ha
        simp only [PyData.shownAll, listText_nil]
        exact ReprK.listEmpty ho hc hd
      | cons y l => exact ReprK.list ho hc hd hna (by simpa using hk.length_eq) fun i z e => hk.item i z (by simpa using e)
  | .tuple ds, v, u, h, r, hs, hz => by
    cases h with
    | @tup a xs ds hl ha =>
      cases r
      obtain ⟨its, rv, ⟨o, ho, hc, n, hd⟩, _⟩ := I.tuple hl
      obtain ⟨as, hr⟩ := DqAll.reads I ds _ its ha rv
      obtain ⟨bs, hb, hk⟩ := DqAll.reprs I ds _ its ha rv (by simpa [PyData.showable] using hs) fun t ht => Nat.le_trans (tupleText_mem_le ht) (by simpa only [PyData.shown] using hz)
      have q : Reads s.heap (.ref a) (.tuple ds) _ := .tuple ho hc hd hr
      have hna : a ∉ bs := not_mem_of_deeper q (by simp only [PyData.depth]; omega) hb
      refine ⟨a :: bs, .cons q (by simp only [PyData.depth]; omega) hb, ?_⟩
      simp only [PyData.depth, PyData.shown]
      exact ReprK.tuple ho hc hd hna hk
  | .dict kd, v, u, h, r, hs, hz => by
    cases h with
    | @dct a kvs h =>
      cases r
      obtain ⟨o, es, n, h1, h2, h3, hsys, bs, hb, hE, as, q⟩ := dict_reprs I h hs hz
      have hna : a ∉ bs := not_mem_of_deeper q (by simp only [PyData.depth]; omega) hb
      refine ⟨a :: bs, .cons q (by simp only [PyData.depth]; omega) hb, ?_⟩
      simp only [PyData.depth, PyData.shown]
      exact ReprK.dict h1 h2 h3 hsys hna hE
theorem DqAll.reprs (I : Inv X pins σ H s) : ∀ (ds : List PyData) (vs : List V) (us : List Value), DqAll X.K H vs ds → Vals vs us → PyData.showableAll ds = true → (∀ t ∈ PyData.shownAll ds, t.length ≤ sizeLine) → ∃ bs, ReadAtMost s.heap (PyData.depthAll ds) bs ∧ ReprAllK X.prog X.w bs s.heap (PyData.depthAll ds) us (PyData.shownAll ds)
  | [], _, _, h, r, _, _ => by
    cases h
    cases r
    exact ⟨[], (fun _ z => nomatch z), .nil⟩
  | d :: ds, _, _, h, r, hs, hz => by
    cases h with
    | cons h1 h2 =>
      cases r with
      | cons r1 r2 =>
        have hs' : d.showable = true ∧ PyData.showableAll ds = true := by simpa [PyData.showableAll] using hs
        obtain ⟨b1, hb1, k1⟩ := Dq.reprs I d _ _ h1 r1 hs'.1 (hz _ (by simp only [PyData.shownAll]; exact List.mem_cons_self))
        obtain ⟨b2, hb2, k2⟩ := DqAll.reprs I ds _ _ h2 r2 hs'.2 fun t ht => hz t (by simp only [PyData.shownAll]; exact List.mem_cons_of_mem _ ht)
        refine ⟨b1 ++ b2, ?_, ?_⟩
        · simp only [PyData.depthAll]
          exact (hb1.mono (Nat.le_max_left _ _)).append (hb2.mono (Nat.le_max_right _ _))
        · simp only [PyData.depthAll, PyData.shownAll]
          exact .cons ((k1.more fun _ z => List.mem_append_left _ z).level_le (Nat.le_max_left _ _)) (k2.more_le (fun _ z => List.mem_append_right _ z) (Nat.le_max_right _ _))
end
end
section
variable {X : Cx}
/-- repr of such data -/
def rReprQ (K : PySem.W.Frag) : List V → Hp → VK → Prop := fun vs H Q => ∃ v d, vs = [v] ∧ Dq K H v d ∧ d.showable = true ∧ d.depth ≤ 60 ∧ d.shown.length ≤ sizeLine ∧ Q (.str d.shown) H
theorem cr_reprQ (hgd : X.A.guards = some []) (hu : X.A.units + 64 < cLine) : CallR X (.builtin "repr") (rReprQ X.K) := by
  intro pins s σ H vs us Q I r ⟨v, d, e, hd, hs, h60, hz, q⟩
  subst e
  obtain ⟨u, rfl, rv⟩ := vals1 r
  have fin : ∀ (h' : Heap) (t : Tok) (tk : Nat), (∀ b o, s.heap.get? b = some o → h'.get? b = some o) → EP X pins σ Q (.str d.shown t) { s with heap := h', toks := tk } := fun h' t tk hk => ⟨.str d.shown, H, I.kept hk, ⟨t, rfl⟩, q⟩
  have fin0 := fin s.heap s.toks (s.toks + 1) fun _ _ z => z
  have hg1 : X.A.in1.guards = some [] := hgd
  cases hd with
  | non => cases rv; exact P.repr_of_none fin0
  | bl b => cases rv; exact P.repr_of_bool (by simpa only [PyData.shown] using fin0)
  | int i => obtain ⟨t, rfl⟩ := rv; exact P.repr_of_int (by simpa [PyData.showable] using hs) (by simpa only [PyData.shown] using fin0)
  | str x => obtain ⟨t, rfl⟩ := rv; exact P.repr_of_str (by simpa only [PyData.shown] using fin0) (by simpa only [PyData.shown] using hz)
  | @lst a xs ds hl ha =>
    cases rv
    obtain ⟨its, rv, ⟨o, n, ho, hc, _, hd⟩, _⟩ := I.list hl
    obtain ⟨as, hr⟩ := DqAll.reads I ds _ its ha rv
    have hz' : (listText (PyData.shownAll ds)).length ≤ sizeLine := by simpa only [PyData.shown] using hz
    obtain ⟨bs, hb, hk⟩ := DqAll.reprs I ds _ its ha rv (by simpa [PyData.showable] using hs) fun t ht => Nat.le_trans (listText_mem_le ht) hz'
    have q2 : Reads s.heap (.ref a) (.list ds) _ := .list ho hc hd hr
    have hna : a ∉ bs := not_mem_of_deeper q2 (by simp only [PyData.depth]; omega) hb
    simp only [PyData.depth] at h60
    simp only [PyData.shown] at fin
    refine call_repr_slot (by omega) ⟨o, ho, hc⟩ F.slot_list_repr.toG ?_
    cases its with
    | nil =>
      cases rv
      cases ha
      exact call_list_repr_empty ⟨o, ho, hc⟩ ho hd ⟨_, _, rfl, by have := fin s.heap s.toks (s.toks + 1) fun _ _ z => z; simpa only [PyData.shownAll, listText_nil] using this⟩
    | cons y l => exact call_list_reprK ho hc hd hna (by simpa using hk.length_eq) (fun i z e => hk.item i z (by simpa using e)) hg1 (fun b _ => Clear.nil b) (by show X.A.units + 1 + (_ + 1) < cLine; omega) (fun _ _ z => z) (fun h' t tk hk' => ⟨_, _, rfl, fin h' t tk hk'⟩) hz'
  | @tup a xs ds hl ha =>
    cases rv
    obtain ⟨its, rv, ⟨o, ho, hc, n, hd⟩, _⟩ := I.tuple hl
    obtain ⟨as, hr⟩ := DqAll.reads I ds _ its ha rv
    have hz' : (tupleText (PyData.shownAll ds)).length ≤ sizeLine := by simpa only [PyData.shown] using hz
    obtain ⟨bs, hb, hk⟩ := DqAll.reprs I ds _ its ha rv (by simpa [PyData.showable] using hs) fun t ht => Nat.le_trans (tupleText_mem_le ht) hz'
    have q2 : Reads s.heap (.ref a) (.tuple ds) _ := .tuple ho hc hd hr
    have hna : a ∉ bs := not_mem_of_deeper q2 (by simp only [PyData.depth]; omega) hb
    simp only [PyData.depth] at h60
    simp only [PyData.shown] at fin
    refine call_repr_slot (by omega) ⟨o, ho, hc⟩ F.slot_tuple_repr ?_
    exact call_tuple_reprK ho hc hd hna hk hg1 (fun b _ => Clear.nil b) (by show X.A.units + 1 + (_ + 1) < cLine; omega) (fun _ _ z => z) (fun h' t tk hk' => ⟨_, _, rfl, fin h' t tk hk'⟩) hz'
  | @dct a kvs h =>
    cases rv
    obtain ⟨o, es, n, h1, h2, h3, hsys, bs, hb, hE, as, q2⟩ := dict_reprs I h hs hz
    have hna : a ∉ bs := not_mem_of_deeper q2 (by simp only [PyData.depth]; omega) hb
    have hz' : (dictText (PyData.shownKv (kvD kvs))).length ≤ sizeLine := by simpa only [PyData.shown] using hz
    simp only [PyData.depth] at h60
    simp only [PyData.shown] at fin
    refine call_repr_slot (by omega) ⟨o, h1, h2⟩ F.slot_dict_repr ?_
    exact call_dict_reprK h1 h2 h3 hsys hna hE hg1 (fun b _ => Clear.nil b) (by show X.A.units + 1 + (_ + 1) < cLine; omega) (fun _ _ z => z) (fun h' t tk hk' => ⟨_, _, rfl, fin h' t tk hk'⟩) hz'
end
end KX

namespace KX
open PySem PySem.Spec L2
open PyProof.Rows hiding St
/-! values beside the store -/
def hideX (H : Hp) (d c z : Addr) : Hp := fun b => if b = d ∨ b = c ∨ b = z then none else H b
theorem hide_at {H : Hp} {d c z b : Addr} (h1 : b ≠ d) (h2 : b ≠ c) (h3 : b ≠ z) : hideX H d c z b = H b := if_neg fun q => q.elim h1 fun q => q.elim h2 h3
theorem hide_of {H : Hp} {d c z b : Addr} {o : HO} (h : hideX H d c z b = some o) : b ≠ d ∧ b ≠ c ∧ b ≠ z ∧ H b = some o := by
  unfold hideX at h
  split at h
  · cases h
  · rename_i q
    exact ⟨fun y => q (.inl y), fun y => q (.inr (.inl y)), fun y => q (.inr (.inr y)), h⟩
theorem hide_same {H : Hp} {d c z : Addr} : Same (hideX H d c z) H := fun _ _ h => (hide_of h).2.2.2
theorem hide_mono {H H' : Hp} {d c z : Addr} (x : SameX H H' d c) : Same (hideX H d c z) (hideX H' d c z) := fun b o h => by
  obtain ⟨h1, h2, h3, h4⟩ := hide_of h
  rw [hide_at h1 h2 h3]
  exact x b o h1 h2 h4
/-- the store, and a thing beside it that is not looked at -/
structure SupE (H : Hp) (d c z : Addr) : Prop where
  s : Sup H d c
  z : H z ≠ none
theorem SupE.of {H : Hp} {d c : Addr} (S : Sup H d c) : SupE H d c d := ⟨S, S.hasD⟩
theorem SupE.next {H H' : Hp} {d c z : Addr} (S : SupE H d c z) (S' : Sup H' d c) (x : SameX H H' d c) : SupE H' d c z := by
  refine ⟨S', fun q => ?_⟩
  rcases Decidable.em (z = d) with e | h1
  · exact S'.hasD (e ▸ q)
  rcases Decidable.em (z = c) with e | h2
  · exact S'.hasC (e ▸ q)
  cases e : H z with
  | none => exact S.z e
  | some o => rw [x z o h1 h2 e] at q; cases q
theorem hide_new {H : Hp} {d c z p : Addr} {o : HO} (S : SupE H d c z) (h : H p = none) : hideX (upd H p o) d c z p = some o := by
  have h1 : p ≠ d := fun q => S.s.hasD (q ▸ h)
  have h2 : p ≠ c := fun q => S.s.hasC (q ▸ h)
  have h3 : p ≠ z := fun q => S.z (q ▸ h)
  rw [hide_at h1 h2 h3]; exact upd_same
theorem new_step {H : Hp} {d c z p : Addr} {o : HO} (S : SupE H d c z) (h : H p = none) : SupE (upd H p o) d c z ∧ SameX H (upd H p o) d c ∧ hideX (upd H p o) d c z p = some o :=
  ⟨S.next (S.s.same (same_new h)) (.of d c (same_new h)), .of d c (same_new h), hide_new S h⟩
def Val (K : PySem.W.Frag) (H : Hp) (d c z : Addr) (v : V) (dd : PyData) : Prop := Dq K (hideX H d c z) v dd
theorem Val.mono {K : PySem.W.Frag} {H H' : Hp} {d c z : Addr} {v : V} {dd : PyData} (h : Val K H d c z v dd) (x : SameX H H' d c) : Val K H' d c z v dd := Dq.same (hide_mono x) h
theorem Val.dq {K : PySem.W.Frag} {H : Hp} {d c z : Addr} {v : V} {dd : PyData} (h : Val K H d c z v dd) : Dq K H v dd := Dq.same hide_same h
theorem dqAll_mem {K : PySem.W.Frag} {H : Hp} : ∀ {vs : List V} {ds : List PyData}, DqAll K H vs ds → ∀ v ∈ vs, ∃ dd ∈ ds, Dq K H v dd
  | _, _, .nil, _, h => nomatch h
  | _, _, .cons h t, v, hv => by
    rcases List.mem_cons.mp hv with e | hv
    · subst e; exact ⟨_, List.mem_cons_self, h⟩
    · obtain ⟨dd, h1, h2⟩ := dqAll_mem t v hv
      exact ⟨dd, List.mem_cons_of_mem _ h1, h2⟩
theorem DqAll.app {K : PySem.W.Frag} {H : Hp} : ∀ {vs ws : List V} {ds es : List PyData}, DqAll K H vs ds → DqAll K H ws es → DqAll K H (vs ++ ws) (ds ++ es)
  | _, _, _, _, .nil, h => h
  | _, _, _, _, .cons h t, q => .cons h (DqAll.app t q)
theorem dqAll_len {K : PySem.W.Frag} {H : Hp} : ∀ {vs : List V} {ds : List PyData}, DqAll K H vs ds → vs.length = ds.length
  | _, _, .nil => rfl
  | _, _, .cons _ t => congrArg (· + 1) (dqAll_len t)
/-- what repr asks -/
structure FineQ (d : PyData) (dep B : Nat) : Prop where
  sh : d.showable = true
  dp : d.depth ≤ dep
  sz : d.shown.length ≤ B
theorem FineD.q {d : PyData} {n B : Nat} (h : FineD d n B) : FineQ d n B := ⟨h.sh, h.dp, h.sz⟩
theorem FineQ.mono {d : PyData} {n m A B : Nat} (h : FineQ d n A) (h1 : n ≤ m) (h2 : A ≤ B) : FineQ d m B := ⟨h.sh, Nat.le_trans h.dp h1, Nat.le_trans h.sz h2⟩
theorem fineq_all {dep B : Nat} : ∀ {ds : List PyData}, (∀ d ∈ ds, FineQ d dep B) → PyData.showableAll ds = true ∧ PyData.depthAll ds ≤ dep ∧ ((PyData.shownAll ds).map (·.length)).sum ≤ ds.length * B ∧ (PyData.shownAll ds).length = ds.length
  | [], _ => ⟨rfl, Nat.zero_le _, Nat.zero_le _, rfl⟩
  | d :: ds, h => by
    obtain ⟨a2, a3, a4, a5⟩ := fineq_all (ds := ds) fun x hx => h x (List.mem_cons_of_mem _ hx)
    have hd := h d List.mem_cons_self
    refine ⟨by simp only [PyData.showableAll, hd.sh, a2, Bool.and_self], ?_, ?_, by simp only [PyData.shownAll, List.length_cons, a5]⟩
    · simp only [PyData.depthAll]; exact Nat.max_le.mpr ⟨hd.dp, a3⟩
    · simp only [PyData.shownAll, List.map_cons, List.sum_cons, List.length_cons]
      have := hd.sz
      rw [Nat.add_mul]; omega
theorem FineQ.tup {ds : List PyData} {dep B : Nat} (h : ∀ d ∈ ds, FineQ d dep B) : FineQ (.tuple ds) (dep + 1) (ds.length * (B + 2) + 3) := by
  obtain ⟨a2, a3, a4, a5⟩ := fineq_all h
  refine ⟨by simp only [PyData.showable, a2], by simp only [PyData.depth]; omega, ?_⟩
  have := tupleText_len_le (PyData.shownAll ds)
  rw [a5] at this
  simp only [PyData.shown]
  rw [Nat.mul_add]; omega
theorem FineQ.lst {ds : List PyData} {dep B : Nat} (h : ∀ d ∈ ds, FineQ d dep B) : FineQ (.list ds) (dep + 1) (ds.length * (B + 2) + 3) := by
  obtain ⟨a2, a3, a4, a5⟩ := fineq_all h
  refine ⟨by simp only [PyData.showable, a2], by simp only [PyData.depth]; omega, ?_⟩
  have := listText_len_le (PyData.shownAll ds)
  rw [a5] at this
  simp only [PyData.shown]
  rw [Nat.mul_add]; omega
/-- types -/
def tyN : PyData → String
  | .none => "NoneType" | .bool _ => "bool" | .int _ => "int" | .str _ => "str" | .list _ => "list" | .tuple _ => "tuple" | .dict _ => "dict"
theorem Dq.ty {K : PySem.W.Frag} {H : Hp} {v : V} {dd : PyData} (h : Dq K H v dd) : TyX K H v (.type (tyN dd)) := by
  cases h with
  | non => exact .base .non
  | bl b => exact .base (.bl b)
  | int i => exact .base (.int i)
  | str x => exact .base (.str x)
  | lst h _ =>
    rcases h with (h | ⟨o, h⟩) | ⟨o, _, _, h, hc, _⟩
    · exact .base (.lst h)
    · exact .base (.frz h)
    · exact .kList h hc
  | tup h _ =>
    rcases h with (h | ⟨o, h⟩) | ⟨o, _, _, h, hc, _⟩
    · exact .base (.tup h)
    · exact .fTuple h
    · exact .kTuple h hc
  | dct h => exact .base (.dK h)
def isIntD : PyData → Bool
  | .bool _ => true | .int _ => true | _ => false
def isBoolD : PyData → Bool
  | .bool _ => true | _ => false
def isTupD : PyData → Bool
  | .tuple _ => true | _ => false
theorem kb_int_NoneType : kitB "NoneType" "int" = some false := by decide +kernel
theorem kb_int_bool : kitB "bool" "int" = some true := by decide +kernel
theorem kb_int_int : kitB "int" "int" = some true := by decide +kernel
theorem kb_int_str : kitB "str" "int" = some false := by decide +kernel
theorem kb_int_list : kitB "list" "int" = some false := by decide +kernel
theorem kb_int_tuple : kitB "tuple" "int" = some false := by decide +kernel
theorem kb_int_dict : kitB "dict" "int" = some false := by decide +kernel
theorem kit_int {K : PySem.W.Frag} : ∀ dd : PyData, PySem.W.kitOne K (.type (tyN dd)) (.type "int") = some (isIntD dd)
  | .none => kit_ty kb_int_NoneType | .bool _ => kit_ty kb_int_bool | .int _ => kit_ty kb_int_int | .str _ => kit_ty kb_int_str | .list _ => kit_ty kb_int_list | .tuple _ => kit_ty kb_int_tuple | .dict _ => kit_ty kb_int_dict
theorem kb_bool_NoneType : kitB "NoneType" "bool" = some false := by decide +kernel
theorem kb_bool_bool : kitB "bool" "bool" = some true := by decide +kernel
theorem kb_bool_int : kitB "int" "bool" = some false := by decide +kernel
theorem kb_bool_str : kitB "str" "bool" = some false := by decide +kernel
theorem kb_bool_list : kitB "list" "bool" = some false := by decide +kernel
theorem kb_bool_tuple : kitB "tuple" "bool" = some false := by decide +kernel
theorem kb_bool_dict : kitB "dict" "bool" = some false := by decide +kernel
theorem kit_bool {K : PySem.W.Frag} : ∀ dd : PyData, PySem.W.kitOne K (.type (tyN dd)) (.type "bool") = some (isBoolD dd)
  | .none => kit_ty kb_bool_NoneType | .bool _ => kit_ty kb_bool_bool | .int _ => kit_ty kb_bool_int | .str _ => kit_ty kb_bool_str | .list _ => kit_ty kb_bool_list | .tuple _ => kit_ty kb_bool_tuple | .dict _ => kit_ty kb_bool_dict
theorem kb_tup_NoneType : kitB "NoneType" "tuple" = some false := by decide +kernel
theorem kb_tup_bool : kitB "bool" "tuple" = some false := by decide +kernel
theorem kb_tup_int : kitB "int" "tuple" = some false := by decide +kernel
theorem kb_tup_str : kitB "str" "tuple" = some false := by decide +kernel
theorem kb_tup_list : kitB "list" "tuple" = some false := by decide +kernel
theorem kb_tup_tuple : kitB "tuple" "tuple" = some true := by decide +kernel
theorem kb_tup_dict : kitB "dict" "tuple" = some false := by decide +kernel
theorem kit_tup {K : PySem.W.Frag} : ∀ dd : PyData, PySem.W.kitOne K (.type (tyN dd)) (.type "tuple") = some (isTupD dd)
  | .none => kit_ty kb_tup_NoneType | .bool _ => kit_ty kb_tup_bool | .int _ => kit_ty kb_tup_int | .str _ => kit_ty kb_tup_str | .list _ => kit_ty kb_tup_list | .tuple _ => kit_ty kb_tup_tuple | .dict _ => kit_ty kb_tup_dict
/-- one of the items -/
def spOne (K : PySem.W.Frag) : Sp := fun vs H Q _ => ∃ (d c z a : Addr) (xs : List V), vs = [.ref d, .ref a] ∧ Sup H d c ∧ SqL K (hideX H d c z) a xs ∧ xs ≠ [] ∧ xs.length ≤ 1000 ∧ ∀ (v : V) (H' : Hp), v ∈ xs → Sup H' d c → SameX H H' d c → Q v H'
/-- keys, as data -/
def keyD : PyData → Bool
  | .int i => decide (0 ≤ i) && decide (i ≤ 1000000000000)
  | _ => false
def spIsKey (K : PySem.W.Frag) : Sp := fun vs H Q _ => ∃ (v : V) (dd : PyData), vs = [v] ∧ Dq K H v dd ∧ Q (.bl (keyD dd)) H
def spIsInt (K : PySem.W.Frag) : Sp := fun vs H Q _ => ∃ (v : V) (dd : PyData), vs = [v, .int 0, .int 1000000000000] ∧ Dq K H v dd ∧ Q (.bl (keyD dd)) H
/-- odd values -/
def oddMenu : List PyData := [.none, .bool true, .bool false, .int (-1), .int 0, .int 1, .int 2, .int 1000000000000, .int 1000000000001, .int (10 ^ 39), .str "", .str "0", .str "sorted",
  .str "late 1 1", .str "0: 1", .tuple [], .list [], .dict [], .tuple [.int 0], .list [.int 1], .tuple [.bool true], .tuple [.int 0, .int 0], .tuple [.tuple [.int 1]], .dict [(.str "a", .int 0)], .tuple [.none, .int 1]]
theorem odd_fine : ∀ dd ∈ oddMenu, FineQ dd 2 60 := by
  have h : oddMenu.all (fun dd => dd.showable && decide (dd.depth ≤ 2) && decide (dd.shown.length ≤ 60)) = true := by decide +kernel
  intro dd hd
  have := List.all_eq_true.mp h dd hd
  simp only [Bool.and_eq_true, decide_eq_true_eq] at this
  exact ⟨this.1.1, this.1.2, this.2⟩
def spOdd (K : PySem.W.Frag) : Sp := fun vs H Q _ => ∃ (d c z : Addr), vs = [.ref d] ∧ SupE H d c z ∧ ∀ (v : V) (dd : PyData) (H' : Hp), dd ∈ oddMenu → Val K H' d c z v dd → SupE H' d c z → SameX H H' d c → Q v H'
end KX

namespace KX
open PySem PySem.Spec L2
open PyProof.Rows hiding St
/-! enumerate(t), t a tuple -/
theorem enumNew {v : Value} {o : Obj} {G : Heap → Prop} (B : Begins v o G) :
    Meets (Builtin.«enumerate.__new__» ⟨[.type "enumerate", v], []⟩) (fun _ R s => G s.heap ∧ R (.ok (.ret (.ref (s.heap.push o).objs.size))) { s with heap := (s.heap.push o).push { cls := .type "enumerate", data := .fields #[.none, .bool false, .ref s.heap.objs.size, rawInt 0, .none, .none] } }) :=
  .of_wp fun prog w A R s h => by
    obtain ⟨hp, g, d, tk, os⟩ := s
    obtain ⟨h1, h2⟩ := h
    have sub := sub_enumerate
    have it : ∀ {A' : Around} {E : Value → Shared → Prop} {Q : Value → Shared → Prop}, Q (.ref hp.objs.size) ⟨hp.push o, g, d, tk, os⟩ → wpAny (model prog w) A' (pyIter v) Q E ⟨hp, g, d, tk, os⟩ := fun q => B.iter prog w _ _ ⟨hp, g, d, tk, os⟩ _ h1 q
    wp_walk using it
    refine wpAny_stack_any fun st => wpAny_pure ?_
    split
    · rename_i c _ _ _ _ _
      cases (c == Value.type "enumerate") <;> (wp_walk using it; exact ⟨_, rfl, h2⟩)
    · wp_walk using it
      exact ⟨_, rfl, h2⟩
theorem enumCall {prog : Program} {w : World} {A : Around} {E : Value → Shared → Prop} {s : Shared} {v : Value} {o : Obj} {G : Heap → Prop} {Q : Value → Shared → Prop} (B : Begins v o G) (h1 : G s.heap)
    (h : ∀ h', IsEnum h' (s.heap.objs.size + 1) s.heap.objs.size 0 .none → h'.get? s.heap.objs.size = some o → (∀ b u, s.heap.get? b = some u → h'.get? b = some u) → Q (.ref (s.heap.objs.size + 1)) { s with heap := h' }) :
    wpAny (model prog w) A (call (.type "enumerate") [v]) Q E s := by
  refine callType_new F.called_enumerate (by decide) (F.typeCall_enumerate_1 _) (F.newCall_enumerate_1 _) (fun obj => F.args_object_init_2 obj _) F.entry_enumerate_new (enumNew B) ⟨h1, ?_⟩
  have hz : (s.heap.push o).objs.size = s.heap.objs.size + 1 := Heap.size_push ..
  have he : IsEnum ((s.heap.push o).push { cls := .type "enumerate", data := .fields #[.none, .bool false, .ref s.heap.objs.size, rawInt 0, .none, .none] }) (s.heap.objs.size + 1) s.heap.objs.size 0 .none := by
    have q := Heap.get?_push_size (s.heap.push o) (o := { cls := .type "enumerate", data := .fields #[.none, .bool false, .ref s.heap.objs.size, rawInt 0, .none, .none] }) rfl
    rw [hz] at q
    exact q
  show _ ∧ _
  rw [hz]
  exact ⟨⟨_, he, rfl⟩, h _ he (Heap.get?_push_of_some _ (Heap.get?_push_size _ B.free)) fun b u x => Heap.get?_push_of_some _ (Heap.get?_push_of_some _ x)⟩
/-- the tuple at a, each item in a new pair -/
def IteT (K : PySem.W.Frag) (a : Addr) : It :=
  ⟨fun i H => ∃ (xs : List V) (x : V), SqT K H a xs ∧ xs[i]? = some x, fun i H v H' => ∃ T x, v = .ref T ∧ H T = none ∧ H' = upd H T (.tup [.int (i : Nat), x]) ∧ ∀ xs, SqT K H a xs → xs[i]? = some x, fun i H => ∃ xs : List V, SqT K H a xs ∧ xs.length = i⟩
theorem turnT {P : Program} {w : World} {K : PySem.W.Frag} {elts : List Expr} {kk : Nat} {tpos : Pos} (a e it : Addr) :
    Turn P w K (.Tuple elts kk tpos) (IteT K a) [e, it] e (fun i h => (∃ old, IsEnum h e it ((i : Nat) : Int) old) ∧ h.IsTupleIter it a i ∧ e ≠ it) where
  mem := List.mem_cons_self
  obj := fun i h st b hb => by
    obtain ⟨⟨old, he⟩, ⟨o, ho, hc, hd⟩, _⟩ := st
    rcases List.mem_cons.mp hb with z | z
    · subst z; exact ⟨_, he, fun v q => nomatch q⟩
    · obtain rfl : b = it := List.mem_singleton.mp z
      exact ⟨o, ho, fun v q => by rw [hd] at q; cases q⟩
  keep := fun i h h' st k => by
    obtain ⟨⟨old, he⟩, hi, hne⟩ := st
    exact ⟨⟨old, k e List.mem_cons_self _ he⟩, hi.at fun o q => k it (List.mem_cons_of_mem _ List.mem_cons_self) o q, hne⟩
  item := by
    intro X hP hw hK hc i pins s σ H E I hf st hg
    subst hP hw hK
    obtain ⟨⟨old, he⟩, hit, hne⟩ := st
    obtain ⟨xs, x, hq, hx⟩ := hg
    obtain ⟨its, rv, tp, hz⟩ := I.tuple hq
    obtain ⟨u, hu, ru⟩ := rv.get hx
    have hea : e ≠ a := fun z => by
      obtain ⟨o, h1, h2, _⟩ := tp
      rw [← z, show s.heap.get? e = some _ from he] at h1
      cases h1
      exact absurd (Value.type.inj h2) (by decide)
    have hia : a ≠ it := fun z => by
      obtain ⟨o, h1, h2, _⟩ := tp
      obtain ⟨o', g1, g2, _⟩ := hit
      rw [z, g1] at h1
      cases h1
      rw [g2] at h2
      exact absurd (Value.type.inj h2) (by decide)
    have hel : e < s.heap.objs.size := Heap.lt_size he
    have hil : it < s.heap.objs.size := by obtain ⟨_, q, _⟩ := hit; exact Heap.lt_size q
    have hui : its[i]? = some u := hu
    have hlt : i < its.toArray.size := by rw [List.size_toArray]; exact (List.getElem?_eq_some_iff.mp hui).1
    have D := Draws.tuple (prog := X.prog) (w := X.w) (A := X.A.in1) (I.ok.hd hc) it a hia its.toArray
    refine wpAny_pyNext_enum_itemD (A := X.A) D he ⟨hit, tp⟩ hlt hne (fun z => by
      rcases List.mem_cons.mp z with z | z
      · exact hne z
      · exact hea (List.mem_singleton.mp z)) fun y h' tk hy ho st' hT hsz hk => ?_
    have ey : y = u := by
      have q : its.toArray[i]? = some u := by simpa using hui
      exact Option.some.inj (hy.symm.trans q)
    subst ey
    refine ⟨_, rfl, wpAny_letOwnedTupleGo_enum (s := { s with heap := h', toks := tk + 1 }) ho fun h'' he' sb => ?_⟩
    have hT2 : h''.get? s.heap.objs.size = some { cls := .type "tuple", data := .seq #[.int i tk, y] } := (sb.2 _ (Nat.ne_of_gt hel)).trans hT
    have I1 : Inv X pins σ (upd H s.heap.objs.size (.tup [.int (i : Nat), x])) { s with heap := h'', toks := tk + 1 } := by
      refine I.turnedNew (ch := [e, it]) (fun b ob hb q => ?_) hf (Nat.le_refl _) (show ObjOk X.prog X.w _ h'' _ (.tup [.int (i : Nat), x]) from ⟨by show 2 ≤ sizeLine; decide, [.int i tk, y], .cons ⟨_, rfl⟩ (.cons ru .nil), ⟨_, hT2, rfl, _, rfl⟩⟩)
      have b1 : b ≠ e := fun z => hb (z ▸ List.mem_cons_self)
      have b2 : b ≠ it := fun z => hb (z ▸ List.mem_cons_of_mem _ List.mem_cons_self)
      exact (sb.2 b b1).trans (hk b ob b1 b2 q)
    refine ⟨.ref s.heap.objs.size, _, I1, rfl, ⟨_, x, rfl, I.hok.fresh (Nat.le_refl _), rfl, fun ys hy => by rw [I.tuple_inj hy hq]; exact hx⟩, ⟨⟨y, by rw [show ((i + 1 : Nat) : Int) = (i : Int) + 1 by omega]; exact he'⟩, st'.1.at fun o q => (sb.2 it (Ne.symm hne)).trans q, hne⟩, fun b hb => ?_⟩
    have hb' : b < s.heap.objs.size := by
      rcases List.mem_cons.mp hb with z | z
      · exact z ▸ hel
      · exact (List.mem_singleton.mp z) ▸ hil
    rw [upd_ne (Nat.ne_of_lt hb')]
    exact (hf b hb).1
  done := by
    intro X hP hw hK hc i pins s σ H E I hf st hg
    subst hP hw hK
    obtain ⟨⟨old, he⟩, hit, hne⟩ := st
    obtain ⟨xs, hq, hx⟩ := hg
    obtain ⟨its, rv, tp, hz⟩ := I.tuple hq
    have hia : a ≠ it := fun z => by
      obtain ⟨o, h1, h2, _⟩ := tp
      obtain ⟨o', g1, g2, _⟩ := hit
      rw [z, g1] at h1
      cases h1
      rw [g2] at h2
      exact absurd (Value.type.inj h2) (by decide)
    obtain ⟨f0, f1, f2, f3, f4, f5⟩ := hf it (List.mem_cons_of_mem _ List.mem_cons_self)
    have D := Draws.tuple (prog := X.prog) (w := X.w) (A := X.A.in1) (I.ok.hd hc) it a hia its.toArray
    have en : i = its.toArray.size := by rw [List.size_toArray, ← rv.length, hx]
    rw [en] at hit
    exact wpAny_pyNext_enum_endD (A := X.A) D he ⟨hit, tp⟩ fun h' eb => ⟨rfl, I.turned (t' := s.toks) (fun b o hb q => eb b o hb q) f0 f1 f3 f4 f5⟩
  self := fun A i s Q E st h => by
    obtain ⟨⟨_, he⟩, _⟩ := st
    exact wpAny_pyIter_enum he h
def iEnumT (K : PySem.W.Frag) (ta : TA) : TI := fun σ H R => ta σ H fun vs H1 => ∃ a xs, vs = [.ref a] ∧ SqT K H1 a xs ∧ R (IteT K a) H1
theorem pi_enumT {X : Cx} {e : Expr} {ta : TA} {p pos tpos : Pos} {elts : List Expr} {kk : Nat} (hg : Gl X "enumerate") (hm : X.mg "enumerate" = none) (ha : PA X [e] ta) (hs : starEach [e] X.env = [(false, eval e X.env)] := by rfl) :
    PI X (.Tuple elts kk tpos) (.Call (.Name "enumerate" p) [e] [] pos) (iEnumT X.K ta) := by
  constructor
  intro pins s σ H R I h
  refine Call_ (ld_blt I hg hm boot_enumerate (PyProof.Rows.callWith_type1 (thn (ha.run pos pins s σ H _ I h) fun us s1 ⟨vs, H1, I1, r1, a, xs, ex, hq, q⟩ => ?_) hs rfl))
  subst ex
  obtain ⟨u, rfl, ru⟩ := vals1 r1
  obtain rfl : u = Value.ref a := ru
  obtain ⟨its, rv, tp, hz⟩ := I1.tuple hq
  refine enumCall (begins_tuple a its.toArray) tp fun h' he hit hk => wpAny_pyIter_enum he ?_
  have I2 : Inv X pins σ H1 { s1 with heap := h' } := I1.kept (t' := s1.toks) hk
  refine ⟨s1.heap.objs.size + 1, [s1.heap.objs.size + 1, s1.heap.objs.size], _, _, H1, rfl, I2, turnT a (s1.heap.objs.size + 1) s1.heap.objs.size, ⟨⟨.none, he⟩, ⟨_, hit, rfl, rfl⟩, Nat.succ_ne_self _⟩, fun b hb => ?_, q⟩
  have hle : s1.heap.objs.size ≤ b := by
    rcases List.mem_cons.mp hb with z | z
    · rw [z]; exact Nat.le_succ _
    · rw [List.mem_singleton.mp z]; exact Nat.le_refl _
  exact I1.fpOk hle (I1.hok.fresh hle)
section
variable {K : PySem.W.Frag} {a : Addr} {xs : List V}
theorem for_enumT {g : TG} {tb : TS} {D : Ends} {σ : L2.St} {H : Hp} (Pv : Nat → L2.St → Hp → Prop) (h0 : Pv 0 σ H) (hl : ∀ i σ H, i ≤ xs.length → Pv i σ H → SqT K H a xs)
    (hs : ∀ i x σ H T, xs[i]? = some x → Pv i σ H → H T = none → g (.ref T) σ (upd H T (.tup [.int (i : Nat), x])) fun σ2 H2 => tb { D with nx := Pv (i + 1), ct := Pv (i + 1), bk := D.nx } σ2 H2) (hd : ∀ σ H, Pv xs.length σ H → D.nx σ H) :
    ∃ W : Nat → Nat → L2.St → Hp → Prop, (∃ m, W 0 m σ H) ∧ ∀ i m σ H, W i m σ H →
      ((IteT K a).stop i H ∧ D.nx σ H) ∨ ((IteT K a).go i H ∧ ∃ N : L2.St → Hp → Prop, (∀ σ' H', N σ' H' → ∃ m', m' < m ∧ W (i + 1) m' σ' H') ∧ ∀ x H', (IteT K a).yld i H x H' → g x σ H' fun σ2 H2 => tb { D with nx := N, ct := N, bk := D.nx } σ2 H2) := by
  refine ⟨fun i m σ H => m = xs.length - i ∧ i ≤ xs.length ∧ Pv i σ H, ⟨_, rfl, Nat.zero_le _, h0⟩, ?_⟩
  rintro i m σ H ⟨rfl, hi, p⟩
  have q := hl i σ H hi p
  rcases Nat.lt_or_ge i xs.length with lt | ge
  · refine .inr ⟨⟨xs, _, q, List.getElem?_eq_getElem lt⟩, Pv (i + 1), fun σ' H' p' => ⟨xs.length - (i + 1), by omega, rfl, lt, p'⟩, ?_⟩
    rintro x H' ⟨T, y, rfl, hT, rfl, hy⟩
    exact hs i y σ H T (hy xs q) p hT
  · obtain rfl : i = xs.length := by omega
    exact .inl ⟨⟨xs, q, rfl⟩, hd σ H p⟩
theorem lc_enumT {g : TG} {tt : TT} {te : TE} {vs : List Nat} {σ : L2.St} {H1 : Hp} {D : Addr} {Qd : Hp → Prop} (Pv : Nat → Hp → Prop) (h0 : Pv 0 (upd H1 D (.lst []))) (hl : ∀ i H, i ≤ xs.length → Pv i H → SqT K H a xs)
    (hs : ∀ i x H T, xs[i]? = some x → Pv i H → H T = none → g (.ref T) (wipe σ vs) (upd H T (.tup [.int (i : Nat), x])) fun σ2 H2 => wipe σ2 vs = wipe σ vs ∧ tt σ2 H2 fun b H3 =>
      if b = true then te σ2 H3 fun y H4 => ∃ acc, H4 D = some (.lst acc) ∧ acc.length < sizeLine ∧ Pv (i + 1) (upd H4 D (.lst (acc ++ [y]))) else Pv (i + 1) H3) (hd : ∀ H, Pv xs.length H → Qd H) :
    ∃ W : Nat → Nat → Hp → Prop, (∃ m, W 0 m (upd H1 D (.lst []))) ∧ ∀ i m H, W i m H →
      ((IteT K a).stop i H ∧ Qd H) ∨ ((IteT K a).go i H ∧ ∃ Nx : Hp → Prop, (∀ H', Nx H' → ∃ m', m' < m ∧ W (i + 1) m' H') ∧ ∀ x H', (IteT K a).yld i H x H' → g x (wipe σ vs) H' fun σ2 H2 => wipe σ2 vs = wipe σ vs ∧ tt σ2 H2 fun b H3 =>
        if b = true then te σ2 H3 fun y H4 => ∃ acc, H4 D = some (.lst acc) ∧ acc.length < sizeLine ∧ Nx (upd H4 D (.lst (acc ++ [y]))) else Nx H3) := by
  refine ⟨fun i m H => m = xs.length - i ∧ i ≤ xs.length ∧ Pv i H, ⟨_, rfl, Nat.zero_le _, h0⟩, ?_⟩
  rintro i m H ⟨rfl, hi, p⟩
  have q := hl i H hi p
  rcases Nat.lt_or_ge i xs.length with lt | ge
  · refine .inr ⟨⟨xs, _, q, List.getElem?_eq_getElem lt⟩, Pv (i + 1), fun H' p' => ⟨xs.length - (i + 1), by omega, rfl, lt, p'⟩, ?_⟩
    rintro x H' ⟨T, y, rfl, hT, rfl, hy⟩
    exact hs i y H T (hy xs q) p hT
  · obtain rfl : i = xs.length := by omega
    exact .inl ⟨⟨xs, q, rfl⟩, hd H p⟩
end
end KX

namespace KX
open PySem PySem.Spec L2
open PyProof.Rows hiding St
/-! t[::-1], t a tuple -/
theorem adjust_rev (n : Nat) : Builtin.Slice.sliceAdjust none none (-1) (n : Int) = ((n : Int) - 1, -1) := rfl
theorem places_rev (n : Nat) : Builtin.Slice.slicePlaces ((n : Int) - 1) (-1) (-1) = n := by
  unfold Builtin.Slice.slicePlaces
  rw [if_neg (by decide)]
  by_cases h : (n : Int) - 1 > -1
  · rw [if_pos h]
    have : ((n : Int) - 1 - -1 - 1) / - -1 + 1 = (n : Int) := by
      rw [show (- -1 : Int) = 1 by rfl, Int.ediv_one]; omega
    rw [this]; omega
  · rw [if_neg h]; omega
theorem range_get {α : Type} (ks : List α) : (List.range ks.length).filterMap (ks[·]?) = ks := by
  have h : ∀ n, n ≤ ks.length → (List.range n).filterMap (ks[·]?) = ks.take n := by
    intro n
    induction n with
    | zero => intro _; rfl
    | succ n ih =>
      intro hn
      have e : ks[n]? = some ks[n] := List.getElem?_eq_getElem (by omega)
      rw [List.range_succ, List.filterMap_append, ih (by omega), List.filterMap_cons_some e, List.filterMap_nil, List.take_add_one, e]; rfl
  rw [h _ (Nat.le_refl _), List.take_length]
theorem filterMap_on {α β : Type} {f g : α → Option β} : ∀ {l : List α}, (∀ x ∈ l, f x = g x) → l.filterMap f = l.filterMap g
  | [], _ => rfl
  | x :: l, h => by
    have ih := filterMap_on (l := l) fun y hy => h y (List.mem_cons_of_mem _ hy)
    have hx := h x List.mem_cons_self
    cases e : f x with
    | none => rw [List.filterMap_cons_none e, List.filterMap_cons_none (hx ▸ e), ih]
    | some b => rw [List.filterMap_cons_some e, List.filterMap_cons_some (hx ▸ e), ih]
theorem pick_rev (xs : Array Value) : ((List.range xs.size).filterMap fun (m : Nat) => xs[(((xs.size : Nat) : Int) - 1 + (m : Int) * (-1)).toNat]?).toArray = xs.toList.reverse.toArray := by
  congr 1
  have e := range_get xs.toList.reverse
  rw [List.length_reverse, Array.length_toList] at e
  rw [← e]
  conv => rhs; rw [e]
  refine (filterMap_on fun m hm => ?_).trans e
  have hm' := List.mem_range.mp hm
  rw [List.getElem?_reverse (by rw [Array.length_toList]; exact hm'), Array.getElem?_toList, Array.length_toList]
  congr 1
  omega
section
variable {prog : Program} {w : World} {A : Around} {E : Value → Shared → Prop} {s : Shared}
theorem sliceApplied_rev {sl : Addr} {t : Tok} {n : Nat} {Q : Int × Int × Nat → Shared → Prop} (hs : s.heap.IsSliceOf sl .none .none (.int (-1) t)) (h : Q ((n : Int) - 1, -1, n) s) :
    wpAny (model prog w) A (Builtin.Slice.sliceApplied (.ref sl) (pure (n : Int))) Q E s := by
  obtain ⟨os, hos, hcs, hds⟩ := id hs
  unfold Builtin.Slice.sliceApplied Builtin.Slice.sliceFields
  refine wpAny_bind (wpAny_bind (wpAny_field hos hds (x := .none) rfl (wpAny_bind (wpAny_field hos hds (x := .none) rfl (wpAny_bind (wpAny_field hos hds (x := .int (-1) t) rfl (wpAny_pure ?_)))))))
  refine wpAny_bind (HT.slicePart_ (.int (-1) t) ?_)
  show wpAny _ _ (if ((-1 : Int) == 0) = true then _ else _) _ _ s
  rw [if_neg (by decide)]
  refine wpAny_bind (HT.slicePart_ .none (wpAny_bind (HT.slicePart_ .none (wpAny_bind (wpAny_pure ?_)))))
  show wpAny _ _ (match Builtin.Slice.sliceAdjust none none (-1) (n : Int) with | (lo, hi) => pure (lo, (-1 : Int), Builtin.Slice.slicePlaces lo hi (-1))) _ _ s
  rw [adjust_rev n]
  show wpAny _ _ (pure (((n : Int) - 1), (-1 : Int), Builtin.Slice.slicePlaces ((n : Int) - 1) (-1) (-1))) _ _ s
  rw [places_rev]
  exact wpAny_pure h
theorem getItem_tuple_rev {t sl : Addr} {items : Array Value} {tk : Tok} {Q : Value → Shared → Prop} (ht : IsTup s.heap t items) (hs : s.heap.IsSliceOf sl .none .none (.int (-1) tk))
    (h : Q (.ref s.heap.objs.size) { s with heap := s.heap.push { cls := .type "tuple", data := .seq items.toList.reverse.toArray } }) (hsz : items.size ≤ sizeLine) : wpAny (model prog w) A (getItem (.ref t) (.ref sl)) Q E s := by
  have htake : sizeOk (.seq items.toList.reverse.toArray) := by
    show items.toList.reverse.toArray.size ≤ sizeLine
    rw [List.size_toArray, List.length_reverse, Array.length_toList]; exact hsz
  obtain ⟨os, hos, hcs, hds⟩ := id hs
  have hTs : s.TypeIs (.ref sl) "slice" := ⟨os, hos, hcs⟩
  unfold getItem
  try with_reducible refine wpAny_holding ?_
  first | refine wpAny_bind (wpAny_pure ?_) | skip
  refine wpAny_bind (wpAny_sequenceKey ht.typeIs (by decide) ?_)
  refine wpAny_bind (wpAny_callSpecial?_slot (name := Str.ofString "__getitem__") ht.typeIs PyProof.Rows.slot_tuple_getitem
    (wpAny_call_entry PyProof.Rows.slot_tuple_getitem ht.typeIs entry_tuple_getitem ?_ (args_tuple_getitem _ _)))
  show wpAny _ _ (Builtin.Tuple.tupleItemsOf (.ref t) >>= _) _ _ s
  refine wpAny_bind (tupleItemsOf_ ht ?_)
  refine wpAny_bind (wpAny_typeOf hTs ?_)
  rw [if_pos (by decide)]
  refine wpAny_bind (sliceApplied_rev hs ?_)
  have hno : ¬ (((((items.size : Nat) : Int) - 1) == 0 && (-1 : Int) == 1 && items.size == items.size) = true) := by
    intro q
    rw [Bool.and_eq_true, Bool.and_eq_true] at q
    exact absurd q.1.2 (by decide)
  show wpAny _ _ (if ((((items.size : Nat) : Int) - 1) == 0 && (-1 : Int) == 1 && items.size == items.size) = true then _ else _) _ _ s
  rw [if_neg hno, pick_rev]
  first
    | exact wpAny_bind (m := Builtin.Tuple.tupleExact _) (wpAny_newObj_type (wpAny_pure ⟨_, rfl, wpAny_pure h⟩) htake)
    | exact wpAny_bind (m := Builtin.Tuple.tupleExact _) (wpAny_newObj_type (wpAny_bind (wpAny_pure (wpAny_pure ⟨_, rfl, wpAny_pure h⟩))) htake)
    | exact wpAny_bind (wpAny_bind (m := Builtin.Tuple.tupleExact _) (wpAny_newObj_type (wpAny_pure (wpAny_pure ⟨_, rfl, wpAny_pure h⟩)) htake))
    | exact wpAny_bind (wpAny_bind (m := Builtin.Tuple.tupleExact _) (wpAny_newObj_type (wpAny_pure ⟨_, rfl, wpAny_pure h⟩) htake))
end
section
variable {X : Cx}
theorem vals_rev : ∀ {xs : List V} {us : List Value}, Vals xs us → Vals xs.reverse us.reverse
  | _, _, .nil => .nil
  | _, _, .cons h t => by
    rw [List.reverse_cons, List.reverse_cons]
    exact (vals_rev t).append (.cons h .nil)
def tRevT (K : PySem.W.Frag) (te : TE) (ts : TO) : TE := fun σ H Q => te σ H fun x H1 => ts σ H1 fun t H4 => t = some (-1) ∧ ∃ a xs, x = .ref a ∧ SqT K H4 a xs ∧ ∀ p, H4 p = none → Q (.ref p) (upd H4 p (.tup xs.reverse))
theorem pe_revT {e s1 : Expr} {te : TE} {ts : TO} {p2 pos : Pos} (he : PE X e te) (hs : PO X (some s1) ts) : PE X (.Subscript e (.Slice none none (some s1) p2) pos) (tRevT X.K te ts) := by
  constructor
  intro pins s σ H Q I h
  refine Subscript_ (thn (he.run pins s σ H _ I h) fun v s1 ⟨x, H1, I1, r1, q1⟩ => ?_)
  refine wpAny_Slice ?_
  rw [evalPart_none]
  refine wpAny_pure (wpAny_pure (thn (hs.run pins s1 σ H1 _ I1 q1) fun vt s4 ⟨t, H4, I4, pt, hn, a, xs, ex, hx, q⟩ => ?_))
  subst ex hn
  cases r1
  cases pt with
  | int i tk =>
  have I5 : Inv X pins σ H4 { s4 with heap := s4.heap.push { cls := .type "slice", data := .fields #[.none, .none, .int (-1) tk] } } := I4.kept (t' := s4.toks) fun b o z => Heap.get?_push_of_some _ z
  obtain ⟨its, r, ht, hz⟩ := I5.tuple hx
  have hlen := r.length
  refine tail_any (ops := [.ref a, .ref s4.heap.objs.size]) ht.typeIs (PyProof.Rows.slot_tuple_getitem.lookup) ?_ (by with_unfolding_all rfl)
  refine getItem_tuple_rev ht (Heap.IsSliceOf.new _ .none .none (.int (-1) tk)) ?_ (by rw [List.size_toArray]; omega)
  refine ⟨.ref _, _, I5.laid (t' := s4.toks) (o := .tup xs.reverse) (fun b o z => Heap.get?_push_of_some _ z) (Nat.le_refl _) ⟨?_, _, vals_rev r, IsTup.new _ _⟩, rfl, q _ (I5.hok.fresh (Nat.le_refl _))⟩
  rw [List.length_reverse]; exact hz
end
end KX

namespace KX
open PySem PySem.Spec L2
open PyProof.Rows hiding St
theorem in_ints (z : Int) : ∀ ns : List Int, inV (.int z) (ns.map V.int) = decide (z ∈ ns)
  | [] => by simp [inV]
  | n :: ns => by
    have ih := in_ints z ns
    unfold inV at ih ⊢
    rw [List.map_cons, List.any_cons, ih]
    by_cases h : n = z
    · subst h; simp [eqV]
    · have h2 : ¬ z = n := fun q => h q.symm
      simp [eqV, h, h2]
theorem flat_ints (ns : List Int) : (ns.map V.int).all flatV = true := by
  rw [List.all_map]; exact List.all_eq_true.mpr fun _ _ => rfl
/-- each value is data that repr shows -/
def AllFine (K : PySem.W.Frag) (H : Hp) (xs : List V) : Prop := ∀ v ∈ xs, ∃ dd, Dq K H v dd ∧ FineQ dd 3 10000
theorem AllFine.same {K : PySem.W.Frag} {H H' : Hp} {xs : List V} (s : Same H H') (h : AllFine K H xs) : AllFine K H' xs := fun v hv => by
  obtain ⟨dd, h1, h2⟩ := h v hv
  exact ⟨dd, h1.same s, h2⟩
theorem AllFine.app {K : PySem.W.Frag} {H : Hp} {xs ys : List V} (h1 : AllFine K H xs) (h2 : AllFine K H ys) : AllFine K H (xs ++ ys) := fun v hv => (List.mem_append.mp hv).elim (h1 v) (h2 v)
theorem AllFine.nil {K : PySem.W.Frag} {H : Hp} : AllFine K H [] := fun _ h => nomatch h
theorem AllFine.cons {K : PySem.W.Frag} {H : Hp} {v : V} {xs : List V} {dd : PyData} (h : Dq K H v dd) (f : FineQ dd 3 10000) (r : AllFine K H xs) : AllFine K H (v :: xs) := fun u hu => by
  rcases List.mem_cons.mp hu with e | hu
  · subst e; exact ⟨dd, h, f⟩
  · exact r u hu
theorem AllFine.sub {K : PySem.W.Frag} {H : Hp} {xs ys : List V} (h : AllFine K H xs) (s : ∀ v ∈ ys, v ∈ xs) : AllFine K H ys := fun v hv => h v (s v hv)
theorem fine_ints {K : PySem.W.Frag} {H : Hp} {ns : List Int} (h : ∀ k ∈ ns, k.natAbs < 10 ^ 13) : AllFine K H (ns.map V.int) := fun v hv => by
  obtain ⟨k, hk, rfl⟩ := List.mem_map.mp hv
  exact ⟨.int k, .int k, (FineD.int (h k hk)).q.mono (by decide) (by decide)⟩
theorem fine_num {i : Int} (h0 : 0 ≤ i) (h : i < 10 ^ 13) : FineQ (.str (Str.ofString (toString i))) 0 200 := by
  obtain ⟨m, rfl⟩ := Int.eq_ofNat_of_zero_le h0
  have hs : ∀ c ∈ (Str.ofString (toString (m : Int))).cps.toList, c < 16 ^ 8 := by
    intro c hc
    rw [PySem.W.KIN.signs_num] at hc
    obtain ⟨ch, _, rfl⟩ := List.mem_map.mp hc
    exact ch.val.toNat_lt
  have h1 := StrLaws.reprText_len _ hs
  have h2 : (Str.ofString (toString (m : Int))).length ≤ 14 := by
    rw [PySem.ofString_length]; exact int_text_length_le10 (k := 13) (by decide) (by omega)
  refine ⟨rfl, Nat.zero_le _, ?_⟩
  show (reprText _).length ≤ 200
  omega
/-- parts that a tuple may have -/
def Part (K : PySem.W.Frag) (H : Hp) (v : V) : Prop := ∃ dd, Dq K H v dd ∧ FineQ dd 2 300
def Parts (K : PySem.W.Frag) (H : Hp) (xs : List V) : Prop := ∀ v ∈ xs, Part K H v
theorem Part.same {K : PySem.W.Frag} {H H' : Hp} {v : V} (s : Same H H') (h : Part K H v) : Part K H' v := by
  obtain ⟨dd, h1, h2⟩ := h
  exact ⟨dd, h1.same s, h2⟩
theorem Parts.same {K : PySem.W.Frag} {H H' : Hp} {xs : List V} (s : Same H H') (h : Parts K H xs) : Parts K H' xs := fun v hv => (h v hv).same s
theorem Parts.app {K : PySem.W.Frag} {H : Hp} {xs ys : List V} (h1 : Parts K H xs) (h2 : Parts K H ys) : Parts K H (xs ++ ys) := fun v hv => (List.mem_append.mp hv).elim (h1 v) (h2 v)
theorem Parts.cons {K : PySem.W.Frag} {H : Hp} {v : V} {xs : List V} (h1 : Part K H v) (h2 : Parts K H xs) : Parts K H (v :: xs) := fun u hu => by
  rcases List.mem_cons.mp hu with e | hu
  · exact e ▸ h1
  · exact h2 u hu
theorem Parts.nil {K : PySem.W.Frag} {H : Hp} : Parts K H [] := fun _ h => nomatch h
theorem Parts.cut {K : PySem.W.Frag} {H : Hp} {xs : List V} {lo hi : Option Int} (h : Parts K H xs) : Parts K H (cutV xs lo hi) := fun v hv => h v (List.mem_of_mem_drop (List.mem_of_mem_take hv))
theorem Parts.ints {K : PySem.W.Frag} {H : Hp} {ns : List Int} (h : ∀ k ∈ ns, k.natAbs < 10 ^ 13) : Parts K H (ns.map V.int) := fun v hv => by
  obtain ⟨k, hk, rfl⟩ := List.mem_map.mp hv
  exact ⟨_, .int k, (FineD.int (h k hk)).q.mono (by decide) (by decide)⟩
theorem Parts.all {K : PySem.W.Frag} {H : Hp} : ∀ {xs : List V}, Parts K H xs → ∃ ds, DqAll K H xs ds ∧ ∀ dd ∈ ds, FineQ dd 2 300
  | [], _ => ⟨[], .nil, fun _ h => nomatch h⟩
  | x :: xs, h => by
    obtain ⟨ds, h1, h2⟩ := Parts.all (xs := xs) fun v hv => h v (List.mem_cons_of_mem _ hv)
    obtain ⟨dd, h3, h4⟩ := h x List.mem_cons_self
    refine ⟨dd :: ds, .cons h3 h1, fun e he => ?_⟩
    rcases List.mem_cons.mp he with z | z
    · exact z ▸ h4
    · exact h2 e z
theorem Parts.tup {K : PySem.W.Frag} {H : Hp} {a : Addr} {xs : List V} (h : Parts K H xs) (hs : SqT K H a xs) (hl : xs.length ≤ 30) : ∃ dd, Dq K H (.ref a) dd ∧ FineQ dd 3 10000 := by
  obtain ⟨ds, h1, h2⟩ := h.all
  refine ⟨_, .tup hs h1, (FineQ.tup h2).mono (by decide) ?_⟩
  have := dqAll_len h1
  have : ds.length * (300 + 2) ≤ 30 * (300 + 2) := Nat.mul_le_mul_right _ (by omega)
  omega
theorem Parts.lst {K : PySem.W.Frag} {H : Hp} {a : Addr} {xs : List V} (h : Parts K H xs) (hs : SqL K H a xs) (hl : xs.length ≤ 30) : ∃ dd, Dq K H (.ref a) dd ∧ FineQ dd 3 10000 := by
  obtain ⟨ds, h1, h2⟩ := h.all
  refine ⟨_, .lst hs h1, (FineQ.lst h2).mono (by decide) ?_⟩
  have := dqAll_len h1
  have : ds.length * (300 + 2) ≤ 30 * (300 + 2) := Nat.mul_le_mul_right _ (by omega)
  omega
/-! slices and sums of tuples beside the store -/
theorem sl_any {K : PySem.W.Frag} {H : Hp} {d c z a : Addr} {xs : List V} {lo hi : Option Int} {Q : VK} (S : SupE H d c z) (hS : SqT K (hideX H d c z) a xs)
    (k : ∀ (q : Addr) (H' : Hp), SupE H' d c z → SameX H H' d c → SqT K (hideX H' d c z) q (cutV xs lo hi) → Q (.ref q) H') : rSlA K (.ref a) lo hi H Q := by
  refine ⟨a, xs, rfl, sameT hide_same hS, fun hw => k a H S (SameX.refl H d c) ?_, fun _ p hp => ?_⟩
  · have : cutV xs lo hi = xs := by unfold cutV; rw [hw.1, hw.2, List.drop_zero, Nat.sub_zero, List.take_length]
    rw [this]; exact hS
  · obtain ⟨S1, x1, f1⟩ := new_step (o := .tup (cutV xs lo hi)) S hp
    exact k p _ S1 x1 (SqT.of f1)
theorem cat_any {K : PySem.W.Frag} {H : Hp} {d c z a b : Addr} {xs ys : List V} {Q : VK} (S : SupE H d c z) (h1 : SqT K (hideX H d c z) a xs) (h2 : SqT K (hideX H d c z) b ys) (hl : xs.length + ys.length ≤ 1000)
    (k : ∀ (q : Addr) (H' : Hp), SupE H' d c z → SameX H H' d c → SqT K (hideX H' d c z) q (xs ++ ys) → Q (.ref q) H') : rCatA K (.ref a) (.ref b) H Q := by
  refine ⟨a, b, xs, ys, rfl, rfl, sameT hide_same h1, sameT hide_same h2, Nat.le_trans hl (by decide), fun e => k b H S (SameX.refl H d c) ?_, fun _ e => k a H S (SameX.refl H d c) ?_, fun _ _ p hp => ?_⟩
  · subst e; exact h2
  · subst e; rw [List.append_nil]; exact h1
  · obtain ⟨S1, x1, f1⟩ := new_step (o := .tup (xs ++ ys)) S hp
    exact k p _ S1 x1 (SqT.of f1)
/-- what stands behind a statement, by a condition -/
theorem cut_seq {t u : TS} {D : Ends} {σ : L2.St} {H : Hp} (P : L2.St → Hp → Prop) (hu : ∀ σ H, P σ H → u D σ H) (ht : ∀ N : L2.St → Hp → Prop, (∀ σ H, P σ H → N σ H) → t { D with nx := N } σ H) : tSeq t u D σ H := ht _ hu
/-! the first error of a value -/
def errAt : Nat → List Int → List PyData → PyData
  | _, _, [] => .none
  | i, bs, d :: ds => match d with
    | .int z => if keyD (.int z) = true then (if z ∈ bs then .tuple [.int i, .str "duplicate"] else errAt (i + 1) (bs ++ [z]) ds) else .tuple [.int i, .str "key"]
    | _ => .tuple [.int i, .str "key"]
def errD : PyData → PyData
  | .tuple ds => if ds.length = 0 ∨ 24 < ds.length then .tuple [.none, .str "length"] else errAt 0 [] ds
  | _ => .tuple [.none, .str "tuple"]
theorem errD_tup {dd : PyData} (h : isTupD dd = false) : errD dd = .tuple [.none, .str "tuple"] := by
  cases dd <;> first | rfl | cases h
theorem errD_len {ds : List PyData} (h : ds.length = 0 ∨ 24 < ds.length) : errD (.tuple ds) = .tuple [.none, .str "length"] := if_pos h
theorem errD_at {ds : List PyData} (h : ¬ (ds.length = 0 ∨ 24 < ds.length)) : errD (.tuple ds) = errAt 0 [] ds := if_neg h
theorem errAt_key {i : Nat} {bs : List Int} {d : PyData} {ds : List PyData} (h : keyD d = false) : errAt i bs (d :: ds) = .tuple [.int i, .str "key"] := by
  cases d with
  | int z => show (if keyD (.int z) = true then _ else _) = _; rw [if_neg (by rw [h]; decide)]
  | _ => rfl
theorem errAt_dup {i : Nat} {bs : List Int} {z : Int} {ds : List PyData} (h : keyD (.int z) = true) (hm : z ∈ bs) : errAt i bs (.int z :: ds) = .tuple [.int i, .str "duplicate"] := by
  show (if keyD (.int z) = true then _ else _) = _
  rw [if_pos h, if_pos hm]
theorem errAt_next {i : Nat} {bs : List Int} {z : Int} {ds : List PyData} (h : keyD (.int z) = true) (hm : z ∉ bs) : errAt i bs (.int z :: ds) = errAt (i + 1) (bs ++ [z]) ds := by
  show (if keyD (.int z) = true then _ else _) = _
  rw [if_pos h, if_neg hm]
def ErrS (r : PyData) : Prop := r = .none ∨ ∃ a s, r = .tuple [a, .str s] ∧ FineQ a 0 14 ∧ FineQ (.str s) 0 14
theorem errAt_shape : ∀ (ds : List PyData) (i : Nat) (bs : List Int), i + ds.length ≤ 1000 → ErrS (errAt i bs ds)
  | [], _, _, _ => .inl rfl
  | d :: ds, i, bs, h => by
    rw [List.length_cons] at h
    have hi : FineQ (.int (i : Int)) 0 14 := (FineD.int (by omega)).q
    cases e : keyD d with
    | false => rw [errAt_key e]; exact .inr ⟨_, _, rfl, hi, ⟨rfl, by decide, by decide +kernel⟩⟩
    | true =>
      cases d with
      | int z =>
        by_cases hm : z ∈ bs
        · rw [errAt_dup e hm]; exact .inr ⟨_, _, rfl, hi, ⟨rfl, by decide, by decide +kernel⟩⟩
        · rw [errAt_next e hm]; exact errAt_shape ds (i + 1) _ (by omega)
      | _ => cases e
theorem errD_shape (dd : PyData) : ErrS (errD dd) := by
  cases e : isTupD dd with
  | false => rw [errD_tup e]; exact .inr ⟨_, _, rfl, FineD.none.q.mono (by decide) (by decide), ⟨rfl, by decide, by decide +kernel⟩⟩
  | true =>
    cases dd with
    | tuple ds =>
      by_cases h : ds.length = 0 ∨ 24 < ds.length
      · rw [errD_len h]; exact .inr ⟨_, _, rfl, FineD.none.q.mono (by decide) (by decide), ⟨rfl, by decide, by decide +kernel⟩⟩
      · rw [errD_at h]; exact errAt_shape ds 0 [] (by omega)
    | _ => cases e
theorem ErrS.fine {r : PyData} (h : ErrS r) : FineQ r 1 100 := by
  rcases h with rfl | ⟨a, s, rfl, h1, h2⟩
  · exact FineD.none.q.mono (by decide) (by decide)
  · refine (FineQ.tup (ds := [a, .str s]) (dep := 0) (B := 14) fun x hx => ?_).mono (by decide) (by show 2 * (14 + 2) + 3 ≤ 100; decide)
    rcases List.mem_cons.mp hx with e | hx
    · subst e; exact h1
    · rw [List.mem_singleton] at hx; subst hx; exact h2
def isNonD : PyData → Bool
  | .none => true
  | _ => false
theorem ErrS.isNon {K : PySem.W.Frag} {H : Hp} {v : V} {r : PyData} (h : ErrS r) (hd : Dq K H v r) : decide (v = .non) = isNonD r := by
  rcases h with rfl | ⟨a, s, rfl, _⟩
  · cases hd; exact decide_eq_true rfl
  · cases hd; exact decide_eq_false (fun z => nomatch z)
/-- the first error, or None -/
def spErr (K : PySem.W.Frag) : Sp := fun vs H Q _ => ∃ (v : V) (dd : PyData), vs = [v] ∧ Dq K H v dd ∧ ∀ (r : V) (H' : Hp), Same H H' → Dq K H' r (errD dd) → Q r H'
def spIsRow (K : PySem.W.Frag) : Sp := fun vs H Q _ => ∃ (v : V) (dd : PyData), vs = [v] ∧ Dq K H v dd ∧ ∀ (H' : Hp), Same H H' → Q (.bl (isNonD (errD dd))) H'
/-- a row bent, and all the values -/
def spBent (K : PySem.W.Frag) : Sp := fun vs H Q _ => ∃ (d c z a : Addr) (row : List Int), vs = [.ref d, .ref a] ∧ SupE H d c z ∧ hideX H d c z a = some (.tup (row.map V.int)) ∧ RowOk row ∧ row.length ≤ 24 ∧
  ∀ (v : V) (dd : PyData) (H' : Hp), Val K H' d c z v dd → FineQ dd 3 10000 → SupE H' d c z → SameX H H' d c → Q v H'
def spVals (K : PySem.W.Frag) : Sp := fun vs H Q _ => ∃ (d c : Addr), vs = [.ref d] ∧ Sup H d c ∧
  ∀ (p : Addr) (xs : List V) (H' : Hp), H' p = some (.lst xs) → xs.length ≤ 100 → AllFine K H' xs → Sup H' d c → SameX H H' d c → Q (.ref p) H'
end KX

namespace LW
open PySem L2 KX
def top (i : Nat) : Stmt := PySem.Challenge.pw_oddrounds_k02_keys_and_rows.main.body.getD i (.Pass ⟨0, 0, 0, 0⟩)
abbrev sSupply : Stmt := top 9
abbrev sTake : Stmt := top 10
section
variable {P : Program} {w : World} {K : PySem.W.Frag} {mg : Str → Option Value} {base : Heap}
theorem scTake : FnScope ["_law_supply_here", "_law_many", "_law_cells", "_law_turn", "_law_at", "_law_cell"] ["_law_supply_here", "_law_many"] (defScope sTake) := ⟨rfl, rfl, rfl, by decide +kernel, rfl, by decide +kernel, by decide +kernel⟩
theorem ok_take {f : Addr} {fd : FuncData} (F : Fun K "_law_take" "_law_take" sTake f fd) (mlen : mg "len" = none) : FnOk P w K mg base CX0 1 f fd ["_law_supply_here", "_law_many"] spTake := by
  refine F.ok scTake (fun vs H Q E h => ?_) (fun cdv A outer s H vs Q E hr h => ?_)
  · obtain ⟨d, c, m, rfl, _⟩ := h
    rfl
  · obtain ⟨d, c, m, rfl, S, hm0, hm, k⟩ := h
    have hu := hu_of hr
    obtain ⟨cells, t, b, hd, hc, hl, hb0, hb⟩ := S.ex
    have ndc : d ≠ c := S.ne
    refine ⟨_, pss_cons (ps_par (i := 2) (j := 3) rfl scTake.nd rfl rfl (by decide) rfl rfl (pa_cons (pe_dget hu (pv 0) pe_str (fun _ _ => rfl)) (pa_cons (pe_dget hu (pv 0) pe_str (fun _ _ => rfl)) pa_nil)) (by rfl))
      (pss_cons (ps_dput hu (pv 0) pe_str (pe_op op_add (pv 3) pe_int) rfl)
      (pss_cons (ps_if (pt_cmpR (op_neD hr.units) (pv 2) (pe_lst pa_nil) (nomark _))
        (pss_cons (ps_set (i := 4) scTake.nd rfl (.inl rfl) (pe_op op_mod (pv 3) (pe_callB call_len_seq (by rfl) mlen PySem.boot_len (pa_cons (pv 2) pa_nil))))
        (pss_cons (ps_set (i := 5) scTake.nd rfl (.inl rfl) (pe_ix ix_list (pv 2) (pv 4) (fun _ _ => rfl)))
        (pss_cons (ps_if (pt_cmpR op_ge (pv 5) (pe_op op_pow pe_int pe_int) (nomark _))
          (pss_cons (ps_asg (pe_op op_fdivW (pv 5) (pv 1)) (pg_sub (pv 2) (pv 4) set_list))
          (pss_one (ps_ret (pe_op op_mod (pv 5) (pv 1))))) pss_nil)
        (pss_one (ps_dput hu (pv 0) pe_str (pe_op op_mod (pe_op op_add (pe_op op_add (pe_op op_mul (pe_dget hu (pv 0) pe_str (fun _ _ => rfl)) pe_int) (pv 5)) (pv 3)) pe_int) rfl))))) pss_nil)
      (pss_cons (ps_dput hu (pv 0) pe_str (pe_op op_mod (pe_op op_add (pe_op op_add (pe_op op_mul (pe_dget hu (pv 0) pe_str (fun _ _ => rfl)) pe_int) (pe_op op_mul pe_int (pv 3))) pe_int) pe_int) rfl)
      (pss_one (ps_ret (pe_op op_mod (pe_op op_fdiv (pe_op op_mod (pe_op op_mul (pe_dget hu (pv 0) pe_str (fun _ _ => rfl)) (pe_dget hu (pv 0) pe_str (fun _ _ => rfl))) pe_int) pe_int) (pv 1))))))), ?_⟩
    -- the two reads, the turn
    refine ⟨_, rfl, d, _, rfl, sup_get hd (sup_cells c t b), _, rfl, d, _, rfl, sup_get hd (sup_turn c t b), _, _, rfl, ?_⟩
    refine ⟨_, rfl, _, _, rfl, rfl, _, rfl, d, _, rfl, sup_setT hd, ?_⟩
    have hd1 : upd H d (.dK (supD c (t + 1) b)) d = some (.dK (supD c (t + 1) b)) := upd_same
    have hc1 : upd H d (.dK (supD c (t + 1) b)) c = some (.lst (cells.map V.int)) := by rw [upd_ne ndc.symm]; exact hc
    have sx1 : SameX H (upd H d (.dK (supD c (t + 1) b))) d c := fun x o h1 _ e => by rw [upd_ne h1]; exact e
    generalize upd H d (.dK (supD c (t + 1) b)) = H1 at hd1 hc1 sx1 ⊢
    refine ⟨_, rfl, Nat.zero_le _, fun e he => nonempty_data (ns := cells) (SqL.of (by rw [upd_ne (ne_of_none hc1 he)]; exact hc1)) (SqL.of upd_same) ⟨_, rfl, ?_⟩⟩
    have hd2 : upd H1 e (.lst []) d = some (.dK (supD c (t + 1) b)) := by rw [upd_ne (ne_of_none hd1 he)]; exact hd1
    have hc2 : upd H1 e (.lst []) c = some (.lst (cells.map V.int)) := by rw [upd_ne (ne_of_none hc1 he)]; exact hc1
    have sx2 : SameX H (upd H1 e (.lst [])) d c := sx1.trans (.of d c (same_new he))
    generalize upd H1 e (.lst []) = H2 at hd2 hc2 sx2 ⊢
    by_cases hn : cells = []
    · rw [decide_eq_true hn]
      refine iteF ?_
      exact last_run hm0 hd2 hc2 hl sx2 hb0 hb k
    · rw [decide_eq_false hn]
      refine iteT ?_
      have hp : 0 < cells.length := List.length_pos_iff.mpr hn
      have hpi : (0 : Int) < ((cells.map V.int).length : Int) := by rw [List.length_map]; omega
      refine ⟨_, rfl, _, rfl, c, _, rfl, .inl (SqL.of hc2), _, _, rfl, rfl, hpi, ?_⟩
      obtain ⟨j, hj, hjl⟩ : ∃ j : Nat, t % ((cells.map V.int).length : Int) = (j : Int) ∧ j < cells.length := by
        have h := emod_in (a := t) hpi
        rw [List.length_map] at h ⊢
        exact ⟨(t % (cells.length : Int)).toNat, by omega, by omega⟩
      show gName 4 (V.int (t % ((cells.map V.int).length : Int))) _ _ _
      rw [hj]
      have hat : (cells.map V.int)[j]? = some (V.int cells[j]) := by rw [List.getElem?_map, List.getElem?_eq_getElem hjl]; rfl
      refine ⟨_, rfl, _, rfl, c, _, _, _, rfl, rfl, SqL.of hc2, atI_nat hat, ?_⟩
      generalize cells[j] = z
      refine ⟨_, rfl, _, _, rfl, rfl, ⟨by decide, by decide, by decide⟩, _, _, rfl, rfl, _, rfl, ?_⟩
      refine ite2 (fun _ => ?_) (fun _ => ?_)
      · -- a great cell: the quotient stays, the rest is drawn
        refine ⟨_, rfl, _, rfl, _, _, rfl, rfl, wide_div hm0 (nats62 hm0 hm) (by decide) (by decide), _, rfl, _, rfl, c, _, _, j, rfl, rfl, hc2, ix_at (by rw [List.length_map]; exact hjl), ?_⟩
        have es : (cells.map V.int).set j (V.int (z / m)) = (cells.set j (z / m)).map V.int := by rw [List.map_set]
        refine ⟨_, rfl, _, rfl, _, _, rfl, rfl, hm0, ?_⟩
        refine k _ _ (emod_in hm0).1 (emod_in hm0).2 ⟨cells.set j (z / m), t + 1, b, ?_, ?_, by rw [List.length_set]; exact hl, hb0, hb⟩ ?_
        · rw [upd_ne ndc]; exact hd2
        · exact upd_same.trans (congrArg (fun l => some (HO.lst l)) es)
        · intro x o h1 h2 e
          rw [upd_ne h2]; exact sx2 x o h1 h2 e
      · refine ⟨_, rfl, d, _, rfl, sup_get hd2 (sup_blend c (t + 1) b), _, _, rfl, rfl, .inl ⟨by omega, by omega⟩, _, rfl, _, _, rfl, rfl, _, rfl, _, _, rfl, rfl, _, _, rfl, rfl, (by show (0 : Int) < 2147483647; decide), _, rfl, d, _, rfl, sup_setB hd2, ?_⟩
        have hb1 := emod_in (a := b * 16807 + z + t) (m := 2147483647) (by decide)
        refine last_run (b2 := (b * 16807 + z + t) % 2147483647) hm0 upd_same (by rw [upd_ne ndc.symm]; exact hc2) hl (fun x o h1 h2 e => by rw [upd_ne h1]; exact sx2 x o h1 h2 e) hb1.1 hb1.2 k
theorem scSupply : FnScope ["_law_script", "_law_cell"] ["_law_script"] (defScope sSupply) := ⟨rfl, rfl, rfl, by decide +kernel, rfl, by decide +kernel, by decide +kernel⟩
theorem ok_supply {f : Addr} {fd : FuncData} (F : Fun K "_law_supply" "_law_supply" sSupply f fd) (mlen : mg "len" = none) (mabs : mg "abs" = none) : FnOk P w K mg base CX0 1 f fd ["_law_script"] (spSupply K) := by
  refine F.ok scSupply (fun vs H Q E h => ?_) (fun cdv A outer s H vs Q E hr h => ?_)
  · obtain ⟨a, ns, rfl, _⟩ := h
    rfl
  · obtain ⟨a, ns, rfl, hS, hl, k⟩ := h
    refine ⟨_, pss_one (ps_ret (pe_disp (pps_cons pe_str (pe_lc (own := [("_law_cell", 1)]) (g := gName 1) (tt := tYes) rfl scSupply.nd (pi_list (pe_slice sl_list (pv 0) po_none (po_some pe_int)))
        (blkOk_by (own := [("_law_cell", 1)]) (N := ["_law_script", "_law_cell"]) (sc := defScope sSupply) (by decide +kernel)) (fun _ _ _ _ _ => pg_name (i := 1) scSupply.nd rfl (.inl rfl)) (fun _ _ _ _ _ => pts_nil)
        (fun _ _ _ _ _ => pe_callB call_abs (by rfl) mabs (by decide +kernel) (pa_cons (pv 1) pa_nil)))
      (pps_cons pe_str pe_int (pps_cons pe_str (pe_op op_add pe_int (pe_op op_mul pe_int (pe_callB call_len_seq (by rfl) mlen PySem.boot_len (pa_cons (pv 0) pa_nil)))) pps_nil))) (by rfl) (by rfl) (fun z => by cases z) (by decide))), ?_⟩
    intro d hd
    refine ⟨_, rfl, 63, rfl, a, _, rfl, (same_new hd).seq hS, fun q hq => ?_⟩
    obtain ⟨ms, em, hml⟩ := cut_ints ns none (some 63)
    rw [em]
    have fr1 : ∀ {b : Addr}, upd (upd H d (.dK [])) q (.lst (ms.map V.int)) b = none → b ≠ d ∧ b ≠ q ∧ H b = none := by
      intro b hb
      have h1 : b ≠ q := fun z => by rw [z, upd_same] at hb; cases hb
      rw [upd_ne h1] at hb
      have h2 : b ≠ d := fun z => by rw [z, upd_same] at hb; cases hb
      rw [upd_ne h2] at hb
      exact ⟨h2, h1, hb⟩
    have hq0 : H q = none := (same_new hd).free hq
    have nqd : q ≠ d := fun z => by rw [z, upd_same] at hq; cases hq
    have dd : upd (upd H d (.dK [])) q (.lst (ms.map V.int)) d = some (.dK []) := by rw [upd_ne nqd.symm]; exact upd_same
    have sm : Same H (upd (upd H d (.dK [])) q (.lst (ms.map V.int))) := (same_new hd).trans (same_new hq)
    refine ⟨q, rfl, ⟨_, SqL.of upd_same⟩, fun c hc => ?_⟩
    obtain ⟨ncd, ncq, hc0⟩ := fr1 hc
    have hqq : upd (upd H d (.dK [])) q (.lst (ms.map V.int)) q = some (.lst (ms.map V.int)) := upd_same
    generalize upd (upd H d (.dK [])) q (.lst (ms.map V.int)) = H1 at dd sm hc hqq ⊢
    refine lc_list (K := K) (a := q) (xs := ms.map V.int) (fun i Hx => ∃ cs : List Int, cs.length = i ∧ At H1 Hx c (cs.map V.int)) ⟨[], rfl, At.nil hc⟩ (fun i Hx _ ⟨_, _, aa⟩ => SqL.of (aa.1 _ _ hqq)) ?_ ?_
    · rintro i y Hx hi ⟨cs, hcs, aa⟩
      obtain ⟨z, _, rfl, hil⟩ := getI hi
      refine ⟨rfl, _, rfl, z, rfl, cs.map V.int, aa.2, by rw [List.length_map]; exact small1000 (by omega), cs ++ [if z < 0 then -z else z], by simp [hcs], ?_⟩
      have e := aa.push hc ((cs ++ [if z < 0 then -z else z]).map V.int)
      rw [List.map_append] at e ⊢
      exact e
    · rintro Hx ⟨cs, hcs, aa⟩
      rw [List.length_map] at hcs
      refine ⟨_, rfl, a, _, rfl, .inl ((sm.trans aa.1).seq hS), _, _, rfl, rfl, .inl ⟨by decide, by decide⟩, _, _, rfl, rfl, aa.1 _ _ dd, supD c 0 (97 + 31 * ((ns.map V.int).length : Int)), rfl, by show 3 ≤ 15; decide, ?_⟩
      rw [sup_make]
      have hl2 : ((ns.map V.int).length : Int) ≤ 63 := by rw [List.length_map]; omega
      refine k d c _ hd hc0 (fun b o e => by rw [upd_ne (ne_of_none e hd)]; exact aa.1 _ _ (sm _ _ e)) ⟨cs, 0, _, upd_same, by rw [upd_ne ncd]; exact aa.2, by omega, by omega, by omega⟩
end
end LW

namespace LW
open PySem L2 KX
abbrev sStir : Stmt := top 12
section
variable {P : Program} {w : World} {K : PySem.W.Frag} {mg : Str → Option Value} {base : Heap}
theorem scStir : FnScope ["_law_supply_here", "_law_items", "_law_left", "_law_found"] ["_law_supply_here", "_law_items"] (defScope sStir) := ⟨rfl, rfl, rfl, by decide +kernel, rfl, by decide +kernel, by decide +kernel⟩
theorem ok_stir {f fT : Addr} {fd fdT : FuncData} (F : Fun K "_law_stirred" "_law_stirred" sStir f fd) (GT : FnOk P w K mg base CX0 1 fT fdT ["_law_supply_here", "_law_many"] spTake) (mT : mg "_law_take" = some (.ref fT)) (kT : PySem.W.keepIn K (.ref fT) = true) (bT : Binds K fdT ["_law_supply_here", "_law_many"] [])
    (mlen : mg "len" = none) (mlist : mg "list" = none) : FnOk P w K mg base CX0 2 f fd ["_law_supply_here", "_law_items"] (spStir K) := by
  refine F.ok scStir (fun vs H Q E h => ?_) (fun cdv A outer s H vs Q E hr h => ?_)
  · obtain ⟨d, c, a, ks, rfl, _⟩ := h
    rfl
  · obtain ⟨d, c, a, ks, rfl, S, hS, hl, k⟩ := h
    refine ⟨_, pss_cons (ps_par (i := 2) (j := 3) rfl scStir.nd rfl rfl (by decide) rfl rfl (pa_cons (pe_callTy call_list_of (by rfl) mlist (by decide +kernel) (pa_cons (pv 1) pa_nil)) (pa_cons (pe_lst pa_nil) pa_nil)) (by rfl))
      (pss_cons (ps_while PassesOwn.never (pt_cmpR (op_neD hr.units) (pv 2) (pe_lst pa_nil) (nomark _))
        (pss_one (ps_expr (pe_bm PySem.F.plainAttrs_list PySem.F.slot_list_append PySem.F.type_list_append mt_append (pv 3) (pa_cons
          (pe_bm PySem.F.plainAttrs_list PySem.F.slot_list_pop PySem.F.type_list_pop mt_popAt (pv 2) (pa_cons (pe_call GT hr (by rfl) mT kT bT .nil pass0 (pa_cons (pv 0) (pa_cons (pe_callB call_len_seq (by rfl) mlen PySem.boot_len (pa_cons (pv 2) pa_nil)) pa_nil))) pa_nil)) pa_nil)))))
      (pss_one (ps_ret (pv 3)))), ?_⟩
    refine ⟨_, rfl, a, _, rfl, .inl hS, fun l hl1 => ⟨Nat.zero_le _, fun g hg1 => ⟨_, _, rfl, ?_⟩⟩⟩
    have hg0 : H g = none := (same_new hl1).free hg1
    have hgl : g ≠ l := fun z => by rw [z, upd_same] at hg1; cases hg1
    have s1 : Same H (upd (upd H l (.lst (ks.map V.int))) g (.lst [])) := (same_new hl1).trans (same_new hg1)
    have hl2 : upd (upd H l (.lst (ks.map V.int))) g (.lst []) l = some (.lst (ks.map V.int)) := by rw [upd_ne hgl.symm]; exact upd_same
    have hg2 : upd (upd H l (.lst (ks.map V.int))) g (.lst []) g = some (.lst []) := upd_same
    generalize upd (upd H l (.lst (ks.map V.int))) g (.lst []) = H1 at s1 hl2 hg2 ⊢
    refine while_by (fun σ H2 => ∃ left found : List Int, σ = [some (.ref d), some (.ref a), some (.ref l), some (.ref g)] ∧ Sup H2 d c ∧ SameX H H2 d c ∧ H2 l = some (.lst (left.map V.int)) ∧ H2 g = some (.lst (found.map V.int)) ∧ (found ++ left).Perm ks)
      (fun _ H2 => match H2 l with | some (.lst xs) => xs.length | _ => 0) ⟨ks, [], rfl, S.same s1, .of d c s1, hl2, hg2, List.Perm.refl _⟩ ?_ ?_
    · rintro σ H2 ⟨left, found, rfl, S2, x2, h1, h2, hp⟩
      have hll : found.length + left.length ≤ 63 := by
        have := hp.length_eq
        rw [List.length_append] at this
        omega
      refine ⟨_, rfl, Nat.zero_le _, fun e he => nonempty_data (ns := left) (SqL.of (by rw [upd_ne (ne_of_none h1 he)]; exact h1)) (SqL.of upd_same) ⟨_, rfl, ?_⟩⟩
      have x3 : SameX H (upd H2 e (.lst [])) d c := x2.trans (.of d c (same_new he))
      have h13 := same_new (o := .lst []) he _ _ h1
      have h23 := same_new (o := .lst []) he _ _ h2
      have S3 := S2.same (same_new (o := .lst []) he)
      generalize upd H2 e (.lst []) = H3 at x3 h13 h23 S3 ⊢
      by_cases hn : left = []
      · rw [decide_eq_true hn]
        refine iteF ?_
        subst hn
        rw [List.append_nil] at hp
        exact ⟨_, rfl, k g H3 found hp S3 x3 hg0 h23⟩
      · rw [decide_eq_false hn]
        refine iteT ?_
        have hpos : 0 < left.length := List.length_pos_iff.mpr hn
        have hdl : l ≠ d := fun z => S.hasD (by rw [← z]; exact hl1)
        have hcl : l ≠ c := fun z => S.hasC (by rw [← z]; exact hl1)
        have hdg : g ≠ d := fun z => S.hasD (by rw [← z]; exact hg0)
        have hcg : g ≠ c := fun z => S.hasC (by rw [← z]; exact hg0)
        refine ⟨_, rfl, .inl ⟨rfl, _, SqL.of h23⟩, _, rfl, .inl ⟨rfl, _, SqL.of h13⟩, _, rfl, _, rfl, l, _, rfl, .inl (SqL.of h13), d, c, _, rfl, S3, by rw [List.length_map]; omega, by rw [List.length_map]; omega, ?_⟩
        intro r H4 hr0 hr1 S4 x4
        have h14 := x4 _ _ hdl hcl h13
        have h24 := x4 _ _ hdg hcg h23
        rw [List.length_map] at hr1
        obtain ⟨j, rfl, hj⟩ : ∃ j : Nat, r = (j : Int) ∧ j < left.length := ⟨r.toNat, by omega, by omega⟩
        have hjm : j < (left.map V.int).length := by rw [List.length_map]; exact hj
        have hat : (left.map V.int)[j]? = some (V.int left[j]) := by rw [List.getElem?_map, List.getElem?_eq_getElem hj]; rfl
        refine ⟨l, _, _, j, _, rfl, rfl, h14, by omega, by omega, (ixN_seq (ix_at hjm)).1, hat, ?_⟩
        refine ⟨g, _, _, rfl, rfl, by rw [upd_ne hgl]; exact h24, by rw [List.length_map]; exact small1000 (by omega), ?_⟩
        have e1 : (left.map V.int).eraseIdx j = (left.eraseIdx j).map V.int := erase_map _ _ _
        have e2 : found.map V.int ++ [V.int left[j]] = (found ++ [left[j]]).map V.int := by rw [List.map_append]; rfl
        rw [e1, e2]
        have hL : upd (upd H4 l (.lst ((left.eraseIdx j).map V.int))) g (.lst ((found ++ [left[j]]).map V.int)) l = some (.lst ((left.eraseIdx j).map V.int)) := by rw [upd_ne hgl.symm]; exact upd_same
        refine ⟨⟨left.eraseIdx j, found ++ [left[j]], rfl, (S4.upd hdl hcl).upd hdg hcg, fun b o n1 n2 e => ?_, hL, upd_same, ?_⟩, ?_⟩
        · rw [upd_ne (ne_of_none e hg0), upd_ne (ne_of_none e hl1)]
          exact x4 b o n1 n2 (x3 b o n1 n2 e)
        · refine List.Perm.trans ?_ hp
          rw [List.append_assoc]
          refine List.Perm.append_left found ?_
          exact erase_perm left j hj
        · rw [hL, h1]
          show ((left.eraseIdx j).map V.int).length < (left.map V.int).length
          rw [List.length_map, List.length_map, List.length_eraseIdx, if_pos hj]
          omega
    · rintro σ H2 Q1 Q2 hq ⟨v, hv, hz, h⟩
      exact ⟨v, hv, hz, fun p hp => by
        obtain ⟨d1, e1, a1, a2, a3, a4, kk, a5, a6⟩ := h p hp
        exact ⟨d1, e1, a1, a2, a3, a4, kk, a5, hq _ _ a6⟩⟩
end
end LW

namespace LW
open PySem L2 KX
abbrev sKeys : Stmt := top 13
abbrev nKeys : List Str := ["_law_supply_here", "_law_n", "_law_way", "_law_found", "_law_key", "_law_k", "_law_one_here"]
section
variable {P : Program} {w : World} {K : PySem.W.Frag} {mg : Str → Option Value} {base : Heap}
theorem scKeys : FnScope nKeys ["_law_supply_here", "_law_n"] (defScope sKeys) := ⟨rfl, rfl, rfl, by decide +kernel, rfl, by decide +kernel, by decide +kernel⟩
theorem ok_keys {f fT : Addr} {fd fdT : FuncData} (F : Fun K "_law_keys" "_law_keys" sKeys f fd) (GT : FnOk P w K mg base CX0 1 fT fdT ["_law_supply_here", "_law_many"] spTake) (mT : mg "_law_take" = some (.ref fT)) (kT : PySem.W.keepIn K (.ref fT) = true) (bT : Binds K fdT ["_law_supply_here", "_law_many"] [])
    (mran : mg "range" = none) : FnOk P w K mg base CX0 2 f fd ["_law_supply_here", "_law_n"] spKeys := by
  refine F.ok scKeys (fun vs H Q E h => ?_) (fun cdv A outer s H vs Q E hr h => ?_)
  · obtain ⟨d, c, n, rfl, _⟩ := h
    rfl
  · obtain ⟨d, c, n, rfl, S, hn1, hn2, k⟩ := h
    refine ⟨_, pss_cons (ps_asg (pe_tup (pa_cons (pe_call GT hr (by rfl) mT kT bT .nil pass0 (pa_cons (pv 0) (pa_cons pe_int pa_nil))) (pa_cons (pe_lst pa_nil) (pa_cons pe_int pa_nil))))
          (pg_tup rfl (pgs_cons (pg_name (i := 2) scKeys.nd rfl (.inl rfl)) (pgs_cons (pg_name (i := 3) scKeys.nd rfl (.inr rfl)) (pgs_cons (pg_name (i := 4) scKeys.nd rfl (.inl rfl)) pgs_nil)))))
      (pss_cons (ps_for PassesOwn.never rfl (pi_range1 (by rfl) mran (pa_cons (pv 1) pa_nil)) (pg_name (i := 5) scKeys.nd rfl (.inl rfl))
        (pss_cons (ps_expr (pe_bm PySem.F.plainAttrs_list PySem.F.slot_list_append PySem.F.type_list_append mt_append (pv 3) (pa_cons (pv 4) pa_nil)))
        (pss_one (ps_set (i := 4) scKeys.nd rfl (.inl rfl) (pe_op op_add (pe_op op_add (pv 4) pe_int) (pe_ix ix_list (pe_lst (pa_cons pe_int (pa_cons (pe_call GT hr (by rfl) mT kT bT .nil pass0 (pa_cons (pv 0) (pa_cons pe_int pa_nil)))
          (pa_cons (pe_call GT hr (by rfl) mT kT bT .nil pass0 (pa_cons (pv 0) (pa_cons (pe_op op_pow pe_int pe_int) pa_nil))) pa_nil)))) (pv 2) (fun _ _ => rfl)))))))
      (pss_cons (ps_if (pt_cmpR op_eq (pv 2) pe_int (nomark _)) (pss_one (ps_set (i := 3) scKeys.nd rfl (.inr rfl) (pe_lc (own := [("_law_one_here", 6)]) (g := gName 6) (tt := tYes) rfl scKeys.nd (pi_list (pv 3))
          (blkOk_by (own := [("_law_one_here", 6)]) (N := nKeys) (sc := defScope sKeys) (by decide +kernel)) (fun _ _ _ _ _ => pg_name (i := 6) scKeys.nd rfl (.inl rfl)) (fun _ _ _ _ _ => pts_nil)
          (fun _ _ _ _ _ => pe_op op_sub (pe_op op_add (pv 6) (pe_op op_pow pe_int pe_int)) (pe_ix (show IxR _ (rIxL K) from ix_list) (pv 3) (pe_un un_neg pe_int) (fun _ _ => rfl)))))) pss_nil)
      (pss_one (ps_ret (pv 3))))), ?_⟩
    refine ⟨_, rfl, d, c, 3, rfl, S, by decide, by decide, fun r H1 hr0 hr1 S1 x1 => ?_⟩
    refine ⟨Nat.zero_le _, fun g hg => ⟨by show 3 ≤ sizeLine; decide, fun t ht => ⟨t, _, rfl, SqT.of upd_same, rfl, _, _, rfl, _, _, rfl, _, _, rfl, rfl, ?_⟩⟩⟩
    have hg1 : upd H1 g (.lst []) g = some (.lst ([].map V.int)) := upd_same
    have hgt : g ≠ t := ne_of_none hg1 ht
    have hg0 : H g = none := by
      cases e : H g with
      | none => rfl
      | some o =>
        rcases Decidable.em (g = d) with z | z
        · exact absurd hg (z ▸ S1.hasD)
        · rcases Decidable.em (g = c) with z2 | z2
          · exact absurd hg (z2 ▸ S1.hasC)
          · rw [x1 g o z z2 e] at hg; cases hg
    have hgd : g ≠ d := fun z => S.hasD (z ▸ hg0)
    have hgc : g ≠ c := fun z => S.hasC (z ▸ hg0)
    have s2 : Same H1 (upd (upd H1 g (.lst [])) t (.tup [.int r, .ref g, .int 0])) := (same_new hg).trans (same_new ht)
    have hg2 : upd (upd H1 g (.lst [])) t (.tup [.int r, .ref g, .int 0]) g = some (.lst (([] : List Int).map V.int)) := by rw [upd_ne hgt]; exact upd_same
    have S2 := S1.same s2
    have x2 : SameX H (upd (upd H1 g (.lst [])) t (.tup [.int r, .ref g, .int 0])) d c := x1.trans (.of d c s2)
    generalize upd (upd H1 g (.lst [])) t (.tup [.int r, .ref g, .int 0]) = H2 at s2 hg2 S2 x2 ⊢
    refine ⟨_, rfl, (n : Int), rfl, by omega, by omega, for_range (lo := 0) (n := n) (fun i σ H3 => ∃ (ks : List Int) (z : Int) (v : Option V), σ = [some (.ref d), some (.int (n : Int)), some (.int r), some (.ref g), some (.int z), v, none] ∧ ks.length = i ∧ ks.Pairwise (· < ·) ∧ (∀ y ∈ ks, 0 ≤ y ∧ y < z) ∧ 0 ≤ z ∧ z ≤ (i : Int) * 1000000000 ∧ Sup H3 d c ∧ SameX H H3 d c ∧ H3 g = some (.lst (ks.map V.int)))
      ⟨[], 0, none, rfl, rfl, List.Pairwise.nil, (fun _ h => nomatch h), by omega, by omega, S2, x2, hg2⟩ ?_ ?_⟩
    · rintro i σ H3 hi ⟨ks, z, v, rfl, hlen, hpw, hbd, hz0, hz1, S3, x3, hg3⟩
      refine ⟨_, rfl, .inl ⟨rfl, _, SqL.of hg3⟩, _, rfl, g, _, _, rfl, rfl, hg3, by rw [List.length_map]; exact small1000 (by omega), ?_⟩
      have e1 : ks.map V.int ++ [V.int z] = (ks ++ [z]).map V.int := by rw [List.map_append]; rfl
      rw [e1]
      have S4 : Sup (upd H3 g (.lst ((ks ++ [z]).map V.int))) d c := S3.upd hgd hgc
      have x4 : SameX H (upd H3 g (.lst ((ks ++ [z]).map V.int))) d c := fun b o n1 n2 e => by rw [upd_ne (ne_of_none e hg0)]; exact x3 b o n1 n2 e
      have hg4 : upd H3 g (.lst ((ks ++ [z]).map V.int)) g = some (.lst ((ks ++ [z]).map V.int)) := upd_same
      generalize upd H3 g (.lst ((ks ++ [z]).map V.int)) = H4 at S4 x4 hg4 ⊢
      refine ⟨_, rfl, _, _, rfl, rfl, _, rfl, d, c, 9, rfl, S4, by decide, by decide, fun r1 H5 h50 h51 S5 x5 => ?_⟩
      refine ⟨_, rfl, _, _, rfl, rfl, ⟨by decide, by decide, by decide⟩, d, c, 1000000000, rfl, S5, by decide, by decide, fun r2 H6 h60 h61 S6 x6 => ?_⟩
      refine ⟨by show 3 ≤ sizeLine; decide, fun l hl => ⟨_, rfl, ?_⟩⟩
      obtain ⟨j, rfl, hj⟩ : ∃ j : Nat, r = (j : Int) ∧ j < 3 := ⟨r.toNat, by omega, by omega⟩
      obtain ⟨y, hy, hy0, hy1⟩ : ∃ y : Int, ([V.int 0, V.int r1, V.int r2] : List V)[j]? = some (V.int y) ∧ 0 ≤ y ∧ y < 1000000000 := by
        match j, hj with
        | 0, _ => exact ⟨0, rfl, by omega, by omega⟩
        | 1, _ => exact ⟨r1, rfl, h50, by omega⟩
        | 2, _ => exact ⟨r2, rfl, h60, h61⟩
      refine ⟨l, _, _, _, rfl, rfl, SqL.of upd_same, atI_nat hy, _, _, rfl, rfl, ?_⟩
      have hgl : g ≠ l := ne_of_none (x6 _ _ hgd hgc (x5 _ _ hgd hgc hg4)) hl
      have x7 := ((x4.trans x5).trans x6).trans (.of d c (same_new (o := .lst [V.int 0, V.int r1, V.int r2]) hl))
      refine ⟨ks ++ [z], z + 1 + y, _, rfl, by simp [hlen], ?_, ?_, by omega, ?_, S6.same (same_new hl), x7, ?_⟩
      · rw [List.pairwise_append]
        exact ⟨hpw, List.pairwise_singleton _ _, fun a ha b hb => by
          rw [List.mem_singleton] at hb; subst hb
          exact (hbd a ha).2⟩
      · intro a ha
        rcases List.mem_append.mp ha with q | q
        · have := hbd a q; omega
        · rw [List.mem_singleton] at q; subst q; omega
      · show z + 1 + y ≤ ((i + 1 : Nat) : Int) * 1000000000
        omega
      · rw [upd_ne hgl]
        exact x6 _ _ hgd hgc (x5 _ _ hgd hgc hg4)
    · rintro σ H3 ⟨ks, z, v, rfl, hlen, hpw, hbd, hz0, hz1, S3, x3, hg3⟩
      have hzb : z ≤ 30000000000 := by omega
      refine ⟨_, rfl, rfl, _, rfl, ?_⟩
      refine ite2 (fun _ => ?_) (fun _ => ?_)
      · refine ⟨_, rfl, g, rfl, ⟨_, SqL.of hg3⟩, fun D hD => ?_⟩
        have hD0 : H D = none := by
          cases e : H D with
          | none => rfl
          | some o =>
            rcases Decidable.em (D = d) with q | q
            · exact absurd hD (q ▸ S3.hasD)
            · rcases Decidable.em (D = c) with q2 | q2
              · exact absurd hD (q2 ▸ S3.hasC)
              · rw [x3 D o q q2 e] at hD; cases hD
        have hne : ks ≠ [] := fun q => by rw [q] at hlen; simp at hlen; omega
        obtain ⟨ini, lst, hil⟩ : ∃ ini lst, ks = ini ++ [lst] := ⟨_, _, (List.dropLast_concat_getLast hne).symm⟩
        have hlast : atI (ks.map V.int) (-1) = some (V.int lst) := by
          rw [hil, List.map_append]; exact atI_last _ _
        refine lc_list (K := K) (a := g) (xs := ks.map V.int) (fun i Hx => At H3 Hx D (((ks.map fun y => y + 1000000000000 - lst).take i).map V.int)) (At.nil hD) (fun i Hx _ aa => SqL.of (aa.1 _ _ hg3)) ?_ ?_
        · rintro i y Hx hi aa
          obtain ⟨u, hu, rfl, hil2⟩ := getI hi
          refine ⟨rfl, _, rfl, _, _, rfl, rfl, ⟨by decide, by decide, by decide⟩, _, _, rfl, rfl, _, rfl, _, rfl, g, _, _, _, rfl, rfl, SqL.of (aa.1 _ _ hg3), hlast, _, _, rfl, rfl, _, aa.2, ?_, ?_⟩
          · rw [List.length_map, List.length_take]; exact small1000 (by rw [List.length_map]; omega)
          · have hm : (ks.map fun y => y + 1000000000000 - lst)[i]? = some (u + 1000000000000 - lst) := by rw [List.getElem?_map, hu]; rfl
            rw [take_step hm, List.map_append]
            exact aa.push hD _
        · intro Hx aa
          rw [List.length_map] at aa
          rw [show (ks.map fun y => y + 1000000000000 - lst).take ks.length = ks.map fun y => y + 1000000000000 - lst by rw [List.take_of_length_le (by rw [List.length_map]; omega)]] at aa
          refine ⟨_, rfl, k D Hx _ (by rw [List.length_map]; exact hlen) ⟨?_, ?_⟩ (S3.same aa.1) (x3.trans (.of d c aa.1)) hD0 aa.2⟩
          · exact List.pairwise_map.mpr (hpw.imp fun {a b} h => by omega)
          · intro y hy
            obtain ⟨u, hu, rfl⟩ := List.mem_map.mp hy
            have h1 := hbd u hu
            have h2 := hbd lst (by rw [hil]; simp)
            have h3 : u ≤ lst := by
              rw [hil] at hpw hu
              rcases List.mem_append.mp hu with q | q
              · exact Int.le_of_lt ((List.pairwise_append.mp hpw).2.2 u q lst (by simp))
              · rw [List.mem_singleton] at q; omega
            omega
      · refine ⟨_, rfl, k g H3 ks hlen ⟨hpw, fun y hy => ?_⟩ S3 x3 hg0 hg3⟩
        have := hbd y hy
        omega
end
end LW

namespace LW
open PySem L2 KX
abbrev sRow : Stmt := top 14
section
variable {P : Program} {w : World} {K : PySem.W.Frag} {mg : Str → Option Value} {base : Heap}
theorem scRow : FnScope ["_law_supply_here", "_law_most", "_law_held", "_law_way", "_law_at"] ["_law_supply_here", "_law_most"] (defScope sRow) := ⟨rfl, rfl, rfl, by decide +kernel, rfl, by decide +kernel, by decide +kernel⟩
theorem ok_row {f fT fK fS : Addr} {fd fdT fdK fdS : FuncData} (F : Fun K "_law_row" "_law_row" sRow f fd)
    (GT : FnOk P w K mg base CX0 1 fT fdT ["_law_supply_here", "_law_many"] spTake) (mT : mg "_law_take" = some (.ref fT)) (kT : PySem.W.keepIn K (.ref fT) = true) (bT : Binds K fdT ["_law_supply_here", "_law_many"] [])
    (GK : FnOk P w K mg base CX0 2 fK fdK ["_law_supply_here", "_law_n"] spKeys) (mK : mg "_law_keys" = some (.ref fK)) (kK : PySem.W.keepIn K (.ref fK) = true) (bK : Binds K fdK ["_law_supply_here", "_law_n"] [])
    (GS : FnOk P w K mg base CX0 2 fS fdS ["_law_supply_here", "_law_items"] (spStir K)) (mS : mg "_law_stirred" = some (.ref fS)) (kS : PySem.W.keepIn K (.ref fS) = true) (bS : Binds K fdS ["_law_supply_here", "_law_items"] [])
    (mlen : mg "len" = none) (mtup : mg "tuple" = none) : FnOk P w K mg base CX0 3 f fd ["_law_supply_here", "_law_most"] spRow := by
  refine F.ok scRow (fun vs H Q E h => ?_) (fun cdv A outer s H vs Q E hr h => ?_)
  · obtain ⟨d, c, n, rfl, _⟩ := h
    rfl
  · obtain ⟨d, c, n, rfl, S, hn1, hn2, k⟩ := h
    have hr1 : Room 1 _ := hr.mono (by decide)
    refine ⟨_, pss_cons (ps_set (i := 2) scRow.nd rfl (.inl rfl) (pe_call GK hr (by rfl) mK kK bK .nil pass0 (pa_cons (pv 0) (pa_cons (pe_op op_add pe_int (pe_call GT hr1 (by rfl) mT kT bT .nil pass0 (pa_cons (pv 0) (pa_cons (pv 1) pa_nil)))) pa_nil))))
      (pss_cons (ps_par (i := 3) (j := 4) rfl scRow.nd rfl rfl (by decide) rfl rfl (pa_cons (pe_call GT hr1 (by rfl) mT kT bT .nil pass0 (pa_cons (pv 0) (pa_cons pe_int pa_nil)))
          (pa_cons (pe_call GT hr1 (by rfl) mT kT bT .nil pass0 (pa_cons (pv 0) (pa_cons (pe_callB call_len_seq (by rfl) mlen PySem.boot_len (pa_cons (pv 2) pa_nil)) pa_nil))) pa_nil)) (by rfl))
      (pss_cons (ps_if (pt_cmpR op_eq (pv 3) pe_int (nomark _)) (pss_one (ps_ret (pe_callTy call_tuple_of (by rfl) mtup (by decide +kernel) (pa_cons (pe_revL (pv 2)) pa_nil)))) pss_nil)
      (pss_cons (ps_if (pt_cmpR op_eq (pv 3) pe_int (nomark _)) (pss_one (ps_ret (pe_callTy call_tuple_of (by rfl) mtup (by decide +kernel) (pa_cons (pe_op op_cat (pe_slice sl_list (pv 2) (po_some (pv 4)) po_none) (pe_slice sl_list (pv 2) po_none (po_some (pv 4)))) pa_nil)))) pss_nil)
      (pss_cons (ps_if (pt_cmpR op_eq (pv 3) pe_int (nomark _)) (pss_one (ps_ret (pe_callTy call_tuple_of (by rfl) mtup (by decide +kernel) (pa_cons (pe_op op_cat (pe_op op_cat (pe_slice sl_list (pv 2) po_none (po_some (pv 4)))
          (pe_revL (pe_slice sl_list (pv 2) (po_some (pv 4)) (po_some (pe_op op_add (pv 4) pe_int))))) (pe_slice sl_list (pv 2) (po_some (pe_op op_add (pv 4) pe_int)) po_none)) pa_nil)))) pss_nil)
      (pss_cons (ps_if (pt_cmpR op_eq (pv 3) pe_int (nomark _)) (pss_one (ps_ret (pe_callTy call_tuple_of (by rfl) mtup (by decide +kernel) (pa_cons (pe_op op_cat (pe_step (pv 2) (po_some pe_int) po_none (po_some pe_int)) (pe_step (pv 2) (po_some pe_int) po_none (po_some pe_int))) pa_nil)))) pss_nil)
      (pss_one (ps_ret (pe_callTy call_tuple_of (by rfl) mtup (by decide +kernel) (pa_cons (pe_call GS hr (by rfl) mS kS bS .nil pass0 (pa_cons (pv 0) (pa_cons (pv 2) pa_nil))) pa_nil))))))))), ?_⟩
    refine ⟨_, rfl, _, rfl, _, rfl, d, c, n, rfl, S, by omega, by omega, fun r1 H1 r10 r11 S1 x1 => ?_⟩
    obtain ⟨m, rfl, hm⟩ : ∃ m : Nat, r1 = (m : Int) ∧ m < n := ⟨r1.toNat, by omega, by omega⟩
    refine ⟨_, _, rfl, rfl, d, c, 1 + m, by rw [Int.natCast_add]; rfl, S1, by omega, by omega, fun g H2 ks hlen hks S2 x2 hg1 hg2 => ?_⟩
    have hg0 : H g = none := frX S1 x1 hg1
    have hgd : g ≠ d := fun z => S.hasD (z ▸ hg0)
    have hgc : g ≠ c := fun z => S.hasC (z ▸ hg0)
    refine ⟨_, rfl, d, c, 6, rfl, S2, by decide, by decide, fun wy H3 w0 w1 S3 x3 => ?_⟩
    have hg3 := x3 _ _ hgd hgc hg2
    refine ⟨_, rfl, _, rfl, g, _, rfl, .inl (SqL.of hg3), d, c, _, rfl, S3, by rw [List.length_map]; omega, by rw [List.length_map]; omega, fun at0 H4 a0 a1 S4 x4 => ?_⟩
    have hg4 := x4 _ _ hgd hgc hg3
    rw [List.length_map] at a1
    obtain ⟨j, rfl, hj⟩ : ∃ j : Nat, at0 = (j : Int) ∧ j < ks.length := ⟨at0.toNat, by omega, by omega⟩
    have x5 : SameX H H4 d c := ((x1.trans x2).trans x3).trans x4
    have frn : ∀ {b : Addr}, H4 b = none → H b = none := fun h => frX S4 x5 h
    refine ⟨_, _, rfl, ?_⟩
    have hll : ks.length ≤ 29 := by omega
    have fin : ∀ (Hx : Hp) (xs : List V), (∃ row : List Int, xs = row.map V.int ∧ row.Perm ks) → Same H4 Hx → ∀ l, Hx l = none → Q (.ref l) (upd Hx l (.tup xs)) := by
      rintro Hx xs ⟨row, rfl, hp⟩ sx l hl
      have hl2 := hp.length_eq
      exact k l _ row (.of hks hp) (by omega) (by omega) ((S4.same sx).same (same_new hl)) (x5.trans (.of d c (sx.trans (same_new hl)))) (frn (sx.free hl)) upd_same
    have c3 : ((j : Int) + 3) = ((j + 3 : Nat) : Int) := by omega
    refine ⟨_, rfl, rfl, _, rfl, ?_⟩
    refine ite2 (fun _ => ?_) (fun _ => ?_)
    · refine ⟨_, rfl, g, _, rfl, SqL.of hg4, fun q hq => ⟨q, _, rfl, .inl ⟨SqL.of upd_same, fin _ _ ⟨ks.reverse, ?_, List.reverse_perm ks⟩ (same_new hq)⟩⟩⟩
      rw [List.map_reverse]
    refine ⟨_, rfl, rfl, _, rfl, ?_⟩
    refine ite2 (fun _ => ?_) (fun _ => ?_)
    · refine ⟨_, rfl, _, rfl, _, rfl, g, _, rfl, SqL.of hg4, fun q hq => ?_⟩
      refine ⟨_, rfl, _, rfl, _, rfl, g, _, rfl, (same_new hq).seq (SqL.of hg4), fun q2 hq2 => ?_⟩
      refine ⟨q, q2, _, _, rfl, rfl, (same_new hq2) _ _ upd_same, upd_same, ?_, fun p hp => ⟨p, _, rfl, .inl ⟨SqL.of upd_same, fin _ _ ⟨ks.drop j ++ ks.take j, ?_, ?_⟩ (((same_new hq).trans (same_new hq2)).trans (same_new hp))⟩⟩⟩
      · rw [cut_from, cut_to, List.length_map, List.length_map, List.length_drop, List.length_take]; exact Nat.le_trans (show _ ≤ 29 by omega) (by decide)
      · rw [cut_from, cut_to, ← List.map_append]
      · exact List.perm_append_comm.trans (List.Perm.of_eq (List.take_append_drop j ks))
    refine ⟨_, rfl, rfl, _, rfl, ?_⟩
    refine ite2 (fun _ => ?_) (fun _ => ?_)
    · refine ⟨_, rfl, _, rfl, _, rfl, g, _, rfl, SqL.of hg4, fun q hq => ?_⟩
      refine ⟨_, rfl, _, rfl, _, rfl, _, rfl, _, _, rfl, rfl, _, rfl, g, _, rfl, (same_new hq).seq (SqL.of hg4), fun q2 hq2 => ⟨q2, _, rfl, SqL.of upd_same, fun q3 hq3 => ?_⟩⟩
      refine ⟨q, q3, _, _, rfl, rfl, (same_new hq3) _ _ ((same_new hq2) _ _ upd_same), upd_same, ?_, fun q4 hq4 => ?_⟩
      · rw [c3, cut_to, cut_nat, List.length_reverse, List.length_map, List.length_map, List.length_drop, List.length_take, List.length_take]; exact Nat.le_trans (show _ ≤ 58 by omega) (by decide)
      have s4 := fun o => ((same_new hq).trans (same_new hq2)).trans ((same_new hq3).trans (same_new (o := o) hq4))
      refine ⟨_, rfl, _, rfl, _, _, rfl, rfl, _, rfl, g, _, rfl, (s4 _).seq (SqL.of hg4), fun q5 hq5 => ?_⟩
      refine ⟨q4, q5, _, _, rfl, rfl, (same_new hq5) _ _ upd_same, upd_same, ?_, fun p hp => ⟨p, _, rfl, .inl ⟨SqL.of upd_same, fin _ _ ⟨(ks.take j ++ ((ks.take (j + 3)).drop j).reverse) ++ ks.drop (j + 3), ?_, ?_⟩ ((s4 _).trans ((same_new hq5).trans (same_new hp)))⟩⟩⟩
      · rw [c3, cut_to, cut_nat, cut_from, List.length_append, List.length_reverse, List.length_map, List.length_map, List.length_map, List.length_drop, List.length_drop, List.length_take, List.length_take]; exact Nat.le_trans (show _ ≤ 87 by omega) (by decide)
      · rw [c3, cut_to, cut_nat, cut_from, ← List.map_reverse, ← List.map_append, ← List.map_append]
      · exact mid_perm ks j
    refine ⟨_, rfl, rfl, _, rfl, ?_⟩
    refine ite2 (fun _ => ?_) (fun _ => ?_)
    · refine ⟨_, rfl, 1, rfl, 2, rfl, (fun z => by cases z), g, _, rfl, SqL.of hg4, fun q hq => ?_⟩
      refine ⟨_, rfl, 0, rfl, 2, rfl, (fun z => by cases z), g, _, rfl, (same_new hq).seq (SqL.of hg4), fun q2 hq2 => ?_⟩
      obtain ⟨row, er, hp0⟩ := odd_even ks (by omega)
      refine ⟨q, q2, _, _, rfl, rfl, (same_new hq2) _ _ upd_same, upd_same, ?_, fun p hp => ⟨p, _, rfl, .inl ⟨SqL.of upd_same, fin _ _ ⟨row, er, hp0⟩ (((same_new hq).trans (same_new hq2)).trans (same_new hp))⟩⟩⟩
      rw [← List.length_append, er, List.length_map, hp0.length_eq]; exact Nat.le_trans (show _ ≤ 29 by omega) (by decide)
    refine ⟨_, rfl, _, rfl, d, c, g, ks, rfl, S4, SqL.of hg4, by omega, fun p H6 ks' hp S6 x6 hp1 hp2 => ⟨p, _, rfl, .inl ⟨SqL.of hp2, fun l hl => ?_⟩⟩⟩
    have hl2 := hp.length_eq
    have x7 := x5.trans (x6.trans (.of d c (same_new (o := .tup (ks'.map V.int)) hl)))
    exact k l _ ks' (.of hks hp) (by omega) (by omega) (S6.same (same_new hl)) x7 (frn (frX S6 x6 hl)) upd_same
end
end LW

namespace LW
open PySem L2 KX
abbrev sIsInt : Stmt := top 4
abbrev sIsKey : Stmt := top 5
abbrev sOne : Stmt := top 11
abbrev sOdd : Stmt := top 15
abbrev sLIsKey : Stmt := top 17
section
variable {P : Program} {w : World} {K : PySem.W.Frag} {mg : Str → Option Value} {base : Heap}
theorem scOne : FnScope ["_law_supply_here", "_law_items"] ["_law_supply_here", "_law_items"] (defScope sOne) := ⟨rfl, rfl, rfl, by decide +kernel, rfl, by decide +kernel, by decide +kernel⟩
theorem ok_one {f fT : Addr} {fd fdT : FuncData} (F : Fun K "_law_one" "_law_one" sOne f fd) (GT : FnOk P w K mg base CX0 1 fT fdT ["_law_supply_here", "_law_many"] spTake) (mT : mg "_law_take" = some (.ref fT)) (kT : PySem.W.keepIn K (.ref fT) = true) (bT : Binds K fdT ["_law_supply_here", "_law_many"] [])
    (mlen : mg "len" = none) : FnOk P w K mg base CX0 2 f fd ["_law_supply_here", "_law_items"] (spOne K) := by
  refine F.ok scOne (fun vs H Q E h => ?_) (fun cdv A outer s H vs Q E hr h => ?_)
  · obtain ⟨d, c, z, a, xs, rfl, _⟩ := h
    rfl
  · obtain ⟨d, c, z, a, xs, rfl, S, hS, hne, hl, k⟩ := h
    refine ⟨_, pss_one (ps_ret (pe_ix ix_list (pv 1) (pe_call GT hr (by rfl) mT kT bT .nil pass0 (pa_cons (pv 0) (pa_cons (pe_callB call_len_seq (by rfl) mlen PySem.boot_len (pa_cons (pv 1) pa_nil)) pa_nil))) (fun _ _ => rfl))), ?_⟩
    have hpos : 0 < xs.length := List.length_pos_iff.mpr hne
    refine ⟨_, rfl, _, rfl, _, rfl, a, _, rfl, .inl (hide_same.seq hS), d, c, _, rfl, S, by omega, by omega, fun r H1 r0 r1 S1 x1 => ?_⟩
    obtain ⟨j, rfl, hj⟩ : ∃ j : Nat, r = (j : Int) ∧ j < xs.length := ⟨r.toNat, by omega, by omega⟩
    refine ⟨a, _, _, _, rfl, rfl, hide_same.seq ((hide_mono x1).seq hS), atI_nat (List.getElem?_eq_getElem hj), k _ _ (List.getElem_mem hj) S1 x1⟩
abbrev sPlain : Stmt := top 3
def plainD : PyData → Bool
  | .int _ => true
  | _ => false
def spPlain (K : PySem.W.Frag) : Sp := fun vs H Q _ => ∃ (v : V) (dd : PyData), vs = [v] ∧ Dq K H v dd ∧ Q (.bl (plainD dd)) H
theorem scPlain : FnScope ["value"] ["value"] (defScope sPlain) := ⟨rfl, rfl, rfl, by decide +kernel, rfl, by decide +kernel, by decide +kernel⟩
theorem ok_plain {f : Addr} {fd : FuncData} (F : Fun K "is_plain_integer" "is_plain_integer" sPlain f fd) (misi : mg "isinstance" = none) (mint : mg "int" = none) (mbool : mg "bool" = none) : FnOk P w K mg base CX0 1 f fd ["value"] (spPlain K) := by
  refine F.ok scPlain (fun vs H Q E h => ?_) (fun cdv A outer s H vs Q E hr h => ?_)
  · obtain ⟨v, dd, rfl, _⟩ := h
    rfl
  · obtain ⟨v, dd, rfl, hd, k⟩ := h
    refine ⟨_, pss_one (ps_ret (pe_and (pe_callB call_isi (by rfl) misi (by decide +kernel) (pa_cons (pv 0) (pa_cons (pe_bltn (v := .ty "int") (by rfl) mint (by decide +kernel) rfl) pa_nil)))
      (pe_one (pe_not (pe_callB call_isi (by rfl) misi (by decide +kernel) (pa_cons (pv 0) (pa_cons (pe_bltn (v := .ty "bool") (by rfl) mbool (by decide +kernel) rfl) pa_nil))))))), ?_⟩
    refine ⟨_, rfl, v, _, _, _, _, rfl, .ty "int", hd.ty, kit_int dd, _, rfl, ?_⟩
    cases hd with
    | int i =>
      refine iteT ?_
      exact ⟨_, rfl, _, _, _, _, _, rfl, .ty "bool", .base (.int i), kit_bool (.int i), _, rfl, k⟩
    | bl b =>
      refine iteT ?_
      exact ⟨_, rfl, _, _, _, _, _, rfl, .ty "bool", .base (.bl b), kit_bool (.bool b), _, rfl, k⟩
    | _ => exact iteF k
theorem scIsInt : FnScope ["value", "low", "high"] ["value", "low", "high"] (defScope sIsInt) := ⟨rfl, rfl, rfl, by decide +kernel, rfl, by decide +kernel, by decide +kernel⟩
theorem ok_isint {f fP : Addr} {fd fdP : FuncData} (F : Fun K "is_integer_between" "is_integer_between" sIsInt f fd) (GP : FnOk P w K mg base CX0 1 fP fdP ["value"] (spPlain K)) (mP : mg "is_plain_integer" = some (.ref fP)) (kP : PySem.W.keepIn K (.ref fP) = true) (bP : Binds K fdP ["value"] []) : FnOk P w K mg base CX0 2 f fd ["value", "low", "high"] (spIsInt K) := by
  refine F.ok scIsInt (fun vs H Q E h => ?_) (fun cdv A outer s H vs Q E hr h => ?_)
  · obtain ⟨v, dd, rfl, _⟩ := h
    rfl
  · obtain ⟨v, dd, rfl, hd, k⟩ := h
    refine ⟨_, pss_one (ps_ret (pe_and (pe_call GP hr (by rfl) mP kP bP .nil pass0 (pa_cons (pv 0) pa_nil)) (pe_one (pe_chain op_le op_le (pv 1) (pv 0) (pv 2))))), ?_⟩
    refine ⟨_, rfl, v, dd, rfl, hd, _, rfl, ?_⟩
    cases hd with
    | int i =>
      refine iteT ?_
      refine ⟨_, rfl, _, rfl, _, _, rfl, rfl, _, rfl, ?_⟩
      have k' : Q (.bl (decide (0 ≤ i) && decide (i ≤ 1000000000000))) H := k
      cases e : decide (0 ≤ i) with
      | true =>
        rw [e] at k'
        exact iteT ⟨_, rfl, _, _, rfl, rfl, k'⟩
      | false =>
        rw [e] at k'
        exact iteF k'
    | _ => exact iteF k
theorem scIsKey : FnScope ["value"] ["value"] (defScope sIsKey) := ⟨rfl, rfl, rfl, by decide +kernel, rfl, by decide +kernel, by decide +kernel⟩
theorem ok_iskey {f fI : Addr} {fd fdI : FuncData} {t : Tok} (F : Fun K "is_key" "is_key" sIsKey f fd) (GI : FnOk P w K mg base CX0 2 fI fdI ["value", "low", "high"] (spIsInt K)) (mI : mg "is_integer_between" = some (.ref fI)) (kI : PySem.W.keepIn K (.ref fI) = true) (bI : Binds K fdI ["value", "low", "high"] [])
    (mmax : mg "MAX_KEY" = some (.int 1000000000000 t)) : FnOk P w K mg base CX0 3 f fd ["value"] (spIsKey K) := by
  refine F.ok scIsKey (fun vs H Q E h => ?_) (fun cdv A outer s H vs Q E hr h => ?_)
  · obtain ⟨v, dd, rfl, _⟩ := h
    rfl
  · obtain ⟨v, dd, rfl, hd, k⟩ := h
    refine ⟨_, pss_one (ps_ret (pe_call GI hr (by rfl) mI kI bI .nil pass0 (pa_cons (pv 0) (pa_cons pe_int (pa_cons (pe_glob (v := .int 1000000000000) rfl mmax ⟨_, rfl⟩) pa_nil))))), ?_⟩
    exact ⟨_, rfl, v, dd, rfl, hd, k⟩
theorem scLIsKey : FnScope ["_law_value"] ["_law_value"] (defScope sLIsKey) := ⟨rfl, rfl, rfl, by decide +kernel, rfl, by decide +kernel, by decide +kernel⟩
theorem ok_liskey {f : Addr} {fd : FuncData} (F : Fun K "_law_is_key" "_law_is_key" sLIsKey f fd) (misi : mg "isinstance" = none) (mint : mg "int" = none) (mbool : mg "bool" = none) : FnOk P w K mg base CX0 1 f fd ["_law_value"] (spIsKey K) := by
  refine F.ok scLIsKey (fun vs H Q E h => ?_) (fun cdv A outer s H vs Q E hr h => ?_)
  · obtain ⟨v, dd, rfl, _⟩ := h
    rfl
  · obtain ⟨v, dd, rfl, hd, k⟩ := h
    refine ⟨_, pss_one (ps_ret (pe_and (pe_callB call_isi (by rfl) misi (by decide +kernel) (pa_cons (pv 0) (pa_cons (pe_bltn (v := .ty "int") (by rfl) mint (by decide +kernel) rfl) pa_nil)))
      (pe_and (pe_not (pe_callB call_isi (by rfl) misi (by decide +kernel) (pa_cons (pv 0) (pa_cons (pe_bltn (v := .ty "bool") (by rfl) mbool (by decide +kernel) rfl) pa_nil)))) (pe_one (pe_chain op_le op_le pe_int (pv 0) (pe_op op_pow pe_int pe_int)))))), ?_⟩
    refine ⟨_, rfl, v, _, _, _, _, rfl, .ty "int", hd.ty, kit_int dd, _, rfl, ?_⟩
    cases hd with
    | int i =>
      refine iteT ?_
      refine ⟨_, rfl, _, _, _, _, _, rfl, .ty "bool", .base (.int i), kit_bool (.int i), _, rfl, _, rfl, ?_⟩
      refine iteT ?_
      refine ⟨_, rfl, _, _, rfl, rfl, _, rfl, ?_⟩
      have k' : Q (.bl (decide (0 ≤ i) && decide (i ≤ 1000000000000))) H := k
      cases e : decide (0 ≤ i) with
      | true =>
        rw [e] at k'
        exact iteT ⟨_, _, rfl, rfl, ⟨by decide, by decide, by decide⟩, _, _, rfl, rfl, k'⟩
      | false =>
        rw [e] at k'
        exact iteF k'
    | bl b =>
      refine iteT ?_
      refine ⟨_, rfl, _, _, _, _, _, rfl, .ty "bool", .base (.bl b), kit_bool (.bool b), _, rfl, _, rfl, ?_⟩
      exact iteF k
    | _ => exact iteF k
end
end LW

namespace LW
open PySem L2 KX
section
variable {P : Program} {w : World} {K : PySem.W.Frag} {mg : Str → Option Value} {base : Heap}
theorem scOdd : FnScope ["_law_supply_here", "_law_items"] ["_law_supply_here"] (defScope sOdd) := ⟨rfl, rfl, rfl, by decide +kernel, rfl, by decide +kernel, by decide +kernel⟩
theorem ok_odd {f fO : Addr} {fd fdO : FuncData} (F : Fun K "_law_odd" "_law_odd" sOdd f fd) (GO : FnOk P w K mg base CX0 2 fO fdO ["_law_supply_here", "_law_items"] (spOne K)) (mO : mg "_law_one" = some (.ref fO)) (kO : PySem.W.keepIn K (.ref fO) = true) (bO : Binds K fdO ["_law_supply_here", "_law_items"] []) :
    FnOk P w K mg base CX0 3 f fd ["_law_supply_here"] (spOdd K) := by
  refine F.ok scOdd (fun vs H Q E h => ?_) (fun cdv A outer s H vs Q E hr h => ?_)
  · obtain ⟨d, c, z, rfl, _⟩ := h
    rfl
  · obtain ⟨d, c, z, rfl, S, k⟩ := h
    have hu := hu_of hr
    have xr : SameX H H d c := SameX.refl H d c
    refine ⟨_, pss_cons (ps_set (i := 1) scOdd.nd rfl (.inl rfl) (pe_lst (pa_cons pe_non (pa_cons pe_bl (pa_cons pe_bl (pa_cons (pe_un un_neg pe_int) (pa_cons pe_int (pa_cons pe_int (pa_cons pe_int (pa_cons (pe_op op_pow pe_int pe_int) (pa_cons (pe_op op_add (pe_op op_pow pe_int pe_int) pe_int) (pa_cons (pe_op op_pow pe_int pe_int) (pa_cons pe_str (pa_cons pe_str (pa_cons pe_str pa_nil)))))))))))))))
      (pss_cons (ps_set (i := 1) scOdd.nd rfl (.inl rfl) (pe_op op_cat (pv 1) (pe_lst (pa_cons pe_str (pa_cons pe_str (pa_cons (pe_tup pa_nil) (pa_cons (pe_lst pa_nil) (pa_cons pe_dnewK (pa_cons (pe_tup (pa_cons pe_int pa_nil)) (pa_cons (pe_lst (pa_cons pe_int pa_nil)) (pa_cons (pe_tup (pa_cons pe_bl pa_nil)) (pa_cons (pe_tup (pa_cons pe_int (pa_cons pe_int pa_nil))) (pa_cons (pe_tup (pa_cons (pe_tup (pa_cons pe_int pa_nil)) pa_nil)) pa_nil)))))))))))))
      (pss_one (ps_ret (pe_call GO hr (by rfl) mO kO bO .nil pass0 (pa_cons (pv 0) (pa_cons (pe_op op_cat (pv 1) (pe_lst (pa_cons (pe_disp (pps_cons pe_str pe_int pps_nil) (by rfl) (by rfl) (fun z => by cases z) (by decide)) (pa_cons (pe_tup (pa_cons pe_non (pa_cons pe_int pa_nil))) pa_nil)))) pa_nil)))))), ?_⟩
    refine ⟨1, rfl, _, _, rfl, rfl, ⟨by decide, by decide, by decide⟩, _, _, rfl, rfl, ⟨by decide, by decide, by decide⟩, _, _, rfl, rfl, _, _, rfl, rfl, ⟨by decide, by decide, by decide⟩, by show 13 ≤ sizeLine; decide, fun q1 h1 => ?_⟩
    show L2.tSeq _ _ _ _ (upd H q1 (.lst [.non, .bl true, .bl false, .int (-1), .int 0, .int 1, .int 2, .int 1000000000000, .int 1000000000001, .int (10 ^ 39), .str "", .str "0", .str "sorted"]))
    obtain ⟨S1, x1, f1⟩ := new_step (o := .lst [.non, .bl true, .bl false, .int (-1), .int 0, .int 1, .int 2, .int 1000000000000, .int 1000000000001, .int (10 ^ 39), .str "", .str "0", .str "sorted"]) S h1
    generalize upd H q1 (.lst [.non, .bl true, .bl false, .int (-1), .int 0, .int 1, .int 2, .int 1000000000000, .int 1000000000001, .int (10 ^ 39), .str "", .str "0", .str "sorted"]) = H1 at S1 x1 f1 ⊢
    refine ⟨_, rfl, Nat.zero_le _, fun q2 h2 => ?_⟩
    obtain ⟨S2, x2, f2⟩ := new_step (o := .tup []) S1 h2
    generalize upd H1 q2 (.tup []) = H2 at S2 x2 f2 ⊢
    refine ⟨Nat.zero_le _, fun q3 h3 => ?_⟩
    obtain ⟨S3, x3, f3⟩ := new_step (o := .lst []) S2 h3
    generalize upd H2 q3 (.lst []) = H3 at S3 x3 f3 ⊢
    refine fun q4 h4 => ?_
    obtain ⟨S4, x4, f4⟩ := new_step (o := .dK []) S3 h4
    generalize upd H3 q4 (.dK []) = H4 at S4 x4 f4 ⊢
    refine ⟨(by show 1 ≤ sizeLine; decide), fun q5 h5 => ?_⟩
    obtain ⟨S5, x5, f5⟩ := new_step (o := .tup [.int 0]) S4 h5
    generalize upd H4 q5 (.tup [.int 0]) = H5 at S5 x5 f5 ⊢
    refine ⟨(by show 1 ≤ sizeLine; decide), fun q6 h6 => ?_⟩
    obtain ⟨S6, x6, f6⟩ := new_step (o := .lst [.int 1]) S5 h6
    generalize upd H5 q6 (.lst [.int 1]) = H6 at S6 x6 f6 ⊢
    refine ⟨(by show 1 ≤ sizeLine; decide), fun q7 h7 => ?_⟩
    obtain ⟨S7, x7, f7⟩ := new_step (o := .tup [.bl true]) S6 h7
    generalize upd H6 q7 (.tup [.bl true]) = H7 at S7 x7 f7 ⊢
    refine ⟨(by show 2 ≤ sizeLine; decide), fun q8 h8 => ?_⟩
    obtain ⟨S8, x8, f8⟩ := new_step (o := .tup [.int 0, .int 0]) S7 h8
    generalize upd H7 q8 (.tup [.int 0, .int 0]) = H8 at S8 x8 f8 ⊢
    refine ⟨(by show 1 ≤ sizeLine; decide), fun q9 h9 => ?_⟩
    obtain ⟨S9, x9, f9⟩ := new_step (o := .tup [.int 1]) S8 h9
    generalize upd H8 q9 (.tup [.int 1]) = H9 at S9 x9 f9 ⊢
    refine ⟨(by show 1 ≤ sizeLine; decide), fun q10 h10 => ?_⟩
    obtain ⟨S10, x10, f10⟩ := new_step (o := .tup [.ref q9]) S9 h10
    generalize upd H9 q10 (.tup [.ref q9]) = H10 at S10 x10 f10 ⊢
    refine ⟨by show 10 ≤ sizeLine; decide, fun q11 h11 => ?_⟩
    obtain ⟨S11, x11, f11⟩ := new_step (o := .lst [.str "late 1 1", .str "0: 1", .ref q2, .ref q3, .ref q4, .ref q5, .ref q6, .ref q7, .ref q8, .ref q10]) S10 h11
    generalize upd H10 q11 (.lst [.str "late 1 1", .str "0: 1", .ref q2, .ref q3, .ref q4, .ref q5, .ref q6, .ref q7, .ref q8, .ref q10]) = H11 at S11 x11 f11 ⊢
    have g1 := hide_same _ _ (hide_mono ((((((((((x2).trans x3).trans x4).trans x5).trans x6).trans x7).trans x8).trans x9).trans x10).trans x11) _ _ f1)
    have g11 := hide_same _ _ f11
    refine ⟨q1, q11, _, _, rfl, rfl, g1, g11, by show 13 + 10 ≤ sizeLine; decide, fun q12 h12 => ?_⟩
    obtain ⟨S12, x12, f12⟩ := new_step (o := .lst ([.non, .bl true, .bl false, .int (-1), .int 0, .int 1, .int 2, .int 1000000000000, .int 1000000000001, .int (10 ^ 39), .str "", .str "0", .str "sorted"] ++ [.str "late 1 1", .str "0: 1", .ref q2, .ref q3, .ref q4, .ref q5, .ref q6, .ref q7, .ref q8, .ref q10])) S11 h12
    generalize upd H11 q12 (.lst ([.non, .bl true, .bl false, .int (-1), .int 0, .int 1, .int 2, .int 1000000000000, .int 1000000000001, .int (10 ^ 39), .str "", .str "0", .str "sorted"] ++ [.str "late 1 1", .str "0: 1", .ref q2, .ref q3, .ref q4, .ref q5, .ref q6, .ref q7, .ref q8, .ref q10])) = H12 at S12 x12 f12 ⊢
    refine ⟨_, rfl, _, rfl, fun q13 h13 => ⟨upd_same, [(.inr "a", .int 0)], rfl, by decide, ?_⟩⟩
    show tCons _ _ _ (upd (upd H12 q13 (.dK [])) q13 (.dK [(.inr "a", .int 0)])) _
    rw [upd_upd]
    obtain ⟨S13, x13, f13⟩ := new_step (o := .dK [(.inr "a", .int 0)]) S12 h13
    generalize upd H12 q13 (.dK [(.inr "a", .int 0)]) = H13 at S13 x13 f13 ⊢
    refine ⟨by show 2 ≤ sizeLine; decide, fun q14 h14 => ?_⟩
    obtain ⟨S14, x14, f14⟩ := new_step (o := .tup [.non, .int 1]) S13 h14
    generalize upd H13 q14 (.tup [.non, .int 1]) = H14 at S14 x14 f14 ⊢
    refine ⟨by show 2 ≤ sizeLine; decide, fun q15 h15 => ?_⟩
    obtain ⟨S15, x15, f15⟩ := new_step (o := .lst [.ref q13, .ref q14]) S14 h15
    generalize upd H14 q15 (.lst [.ref q13, .ref q14]) = H15 at S15 x15 f15 ⊢
    have g12 := hide_same _ _ (hide_mono (((x13).trans x14).trans x15) _ _ f12)
    have g15 := hide_same _ _ f15
    refine ⟨q12, q15, _, _, rfl, rfl, g12, g15, by show 23 + 2 ≤ sizeLine; decide, fun q16 h16 => ?_⟩
    obtain ⟨S16, x16, f16⟩ := new_step (o := .lst (([.non, .bl true, .bl false, .int (-1), .int 0, .int 1, .int 2, .int 1000000000000, .int 1000000000001, .int (10 ^ 39), .str "", .str "0", .str "sorted"] ++ [.str "late 1 1", .str "0: 1", .ref q2, .ref q3, .ref q4, .ref q5, .ref q6, .ref q7, .ref q8, .ref q10]) ++ [.ref q13, .ref q14])) S15 h16
    generalize upd H15 q16 (.lst (([.non, .bl true, .bl false, .int (-1), .int 0, .int 1, .int 2, .int 1000000000000, .int 1000000000001, .int (10 ^ 39), .str "", .str "0", .str "sorted"] ++ [.str "late 1 1", .str "0: 1", .ref q2, .ref q3, .ref q4, .ref q5, .ref q6, .ref q7, .ref q8, .ref q10]) ++ [.ref q13, .ref q14])) = H16 at S16 x16 f16 ⊢
    have xa : SameX H H16 d c := (((((((((((((((x1).trans x2).trans x3).trans x4).trans x5).trans x6).trans x7).trans x8).trans x9).trans x10).trans x11).trans x12).trans x13).trans x14).trans x15).trans x16
    have hall : DqAll K (hideX H16 d c z) (([.non, .bl true, .bl false, .int (-1), .int 0, .int 1, .int 2, .int 1000000000000, .int 1000000000001, .int (10 ^ 39), .str "", .str "0", .str "sorted"] ++ [.str "late 1 1", .str "0: 1", .ref q2, .ref q3, .ref q4, .ref q5, .ref q6, .ref q7, .ref q8, .ref q10]) ++ [.ref q13, .ref q14]) oddMenu := by
      exact .cons .non (.cons (.bl true) (.cons (.bl false) (.cons (.int (-1)) (.cons (.int 0) (.cons (.int 1) (.cons (.int 2) (.cons (.int 1000000000000) (.cons (.int 1000000000001) (.cons (.int (10 ^ 39)) (.cons (.str _) (.cons (.str _) (.cons (.str _) (.cons (.str _) (.cons (.str _) (.cons (.tup (SqT.of (hide_mono ((((((((((((((x3).trans x4).trans x5).trans x6).trans x7).trans x8).trans x9).trans x10).trans x11).trans x12).trans x13).trans x14).trans x15).trans x16) _ _ f2)) .nil) (.cons (.lst (SqL.of (hide_mono (((((((((((((x4).trans x5).trans x6).trans x7).trans x8).trans x9).trans x10).trans x11).trans x12).trans x13).trans x14).trans x15).trans x16) _ _ f3)) .nil) (.cons (.dct (kvs := []) (hide_mono ((((((((((((x5).trans x6).trans x7).trans x8).trans x9).trans x10).trans x11).trans x12).trans x13).trans x14).trans x15).trans x16) _ _ f4)) (.cons (.tup (SqT.of (hide_mono (((((((((((x6).trans x7).trans x8).trans x9).trans x10).trans x11).trans x12).trans x13).trans x14).trans x15).trans x16) _ _ f5)) (.cons (.int 0) .nil)) (.cons (.lst (SqL.of (hide_mono ((((((((((x7).trans x8).trans x9).trans x10).trans x11).trans x12).trans x13).trans x14).trans x15).trans x16) _ _ f6)) (.cons (.int 1) .nil)) (.cons (.tup (SqT.of (hide_mono (((((((((x8).trans x9).trans x10).trans x11).trans x12).trans x13).trans x14).trans x15).trans x16) _ _ f7)) (.cons (.bl true) .nil)) (.cons (.tup (SqT.of (hide_mono ((((((((x9).trans x10).trans x11).trans x12).trans x13).trans x14).trans x15).trans x16) _ _ f8)) (.cons (.int 0) (.cons (.int 0) .nil))) (.cons (.tup (SqT.of (hide_mono ((((((x11).trans x12).trans x13).trans x14).trans x15).trans x16) _ _ f10)) (.cons (.tup (SqT.of (hide_mono (((((((x10).trans x11).trans x12).trans x13).trans x14).trans x15).trans x16) _ _ f9)) (.cons (.int 1) .nil)) .nil)) (.cons (.dct (kvs := [("a", 0)]) (hide_mono (((x14).trans x15).trans x16) _ _ f13)) (.cons (.tup (SqT.of (hide_mono ((x15).trans x16) _ _ f14)) (.cons .non (.cons (.int 1) .nil))) .nil))))))))))))))))))))))))
    refine ⟨d, c, z, q16, _, rfl, S16.s, SqL.of f16, (fun z => by cases z), by show 25 ≤ 1000; decide, fun v H17 hv S17 x17 => ?_⟩
    obtain ⟨dd, hd, hq⟩ := dqAll_mem hall v hv
    exact k v dd H17 hd (Dq.same (hide_mono x17) hq) (S16.next S17 x17) (xa.trans x17)
end
end LW

namespace KX
open PySem L2
theorem dqAll_get {K : PySem.W.Frag} {H : Hp} : ∀ {vs : List V} {ds : List PyData} {i : Nat} {v : V}, DqAll K H vs ds → vs[i]? = some v → ∃ d, ds[i]? = some d ∧ Dq K H v d
  | _, _, 0, _, .cons h _, e => ⟨_, rfl, (Option.some.inj e) ▸ h⟩
  | _, _, i + 1, _, .cons _ t, e => dqAll_get (i := i) t e
  | _, _, 0, _, .nil, e => nomatch e
  | _, _, _ + 1, _, .nil, e => nomatch e
theorem cut_take {xs : List V} {i : Nat} (h : i ≤ xs.length) : cutV xs none (some (i : Int)) = xs.take i := by
  unfold cutV
  rw [HT.sIx_none, HT.sIx_nat, Nat.min_eq_left h, List.drop_zero, Nat.sub_zero]
theorem drop_at {α : Type} {xs : List α} {i : Nat} {x : α} (h : xs[i]? = some x) : xs.drop i = x :: xs.drop (i + 1) := by
  obtain ⟨h1, h2⟩ := List.getElem?_eq_some_iff.mp h
  rw [List.drop_eq_getElem_cons h1, h2]
end KX
namespace LW
open PySem L2 KX
abbrev sIsRow : Stmt := top 6
abbrev sRowErr : Stmt := top 7
abbrev sLErr : Stmt := top 18
section
variable {P : Program} {w : World} {K : PySem.W.Frag} {mg : Str → Option Value} {base : Heap}
abbrev nRowErr : List Str := ["value", "index", "item"]
theorem scRowErr : FnScope nRowErr ["value"] (defScope sRowErr) := ⟨rfl, rfl, rfl, by decide +kernel, rfl, by decide +kernel, by decide +kernel⟩
theorem ok_rowerr {f fI : Addr} {fd fdI : FuncData} {t : Tok} (F : Fun K "row_error" "row_error" sRowErr f fd) (GI : FnOk P w K mg base CX0 3 fI fdI ["value"] (spIsKey K)) (mI : mg "is_key" = some (.ref fI)) (kI : PySem.W.keepIn K (.ref fI) = true) (bI : Binds K fdI ["value"] [])
    (misi : mg "isinstance" = none) (mtup : mg "tuple" = none) (mlen : mg "len" = none) (menu : mg "enumerate" = none) (mmax : mg "MAX_PLACES" = some (.int 24 t)) : FnOk P w K mg base CX0 4 f fd ["value"] (spErr K) := by
  refine F.ok scRowErr (fun vs H Q E h => ?_) (fun cdv A outer s H vs Q E hr h => ?_)
  · obtain ⟨v, dd, rfl, _⟩ := h
    rfl
  · obtain ⟨v, dd, rfl, hd, k⟩ := h
    refine ⟨_, pss_cons (ps_if (pt_not (pt_val (pe_callB call_isi (by rfl) misi (by decide +kernel) (pa_cons (pv 0) (pa_cons (pe_bltn (v := .ty "tuple") (by rfl) mtup (by decide +kernel) rfl) pa_nil))))) (pss_one (ps_ret (pe_tup (pa_cons pe_non (pa_cons pe_str pa_nil))))) pss_nil)
      (pss_cons (ps_if (pt_not (pt_chain op_le op_le pe_int (pe_callB call_len_seq (by rfl) mlen PySem.boot_len (pa_cons (pv 0) pa_nil)) (pe_glob (v := .int 24) rfl mmax ⟨_, rfl⟩))) (pss_one (ps_ret (pe_tup (pa_cons pe_non (pa_cons pe_str pa_nil))))) pss_nil)
      (pss_cons (ps_for PassesOwn.never rfl (pi_enumT (by rfl) menu (pa_cons (pv 0) pa_nil)) (pg_tup rfl (pgs_cons (pg_name (i := 1) scRowErr.nd rfl (.inl rfl)) (pgs_cons (pg_name (i := 2) scRowErr.nd rfl (.inl rfl)) pgs_nil)))
        (pss_cons (ps_if (pt_not (pt_val (pe_call GI hr (by rfl) mI kI bI .nil pass0 (pa_cons (pv 2) pa_nil)))) (pss_one (ps_ret (pe_tup (pa_cons (pv 1) (pa_cons pe_str pa_nil))))) pss_nil)
        (pss_one (ps_if (pt_cmpR op_in_seq (pv 2) (pe_slice sl_tup (pv 0) po_none (po_some (pv 1))) (by rfl)) (pss_one (ps_ret (pe_tup (pa_cons (pv 1) (pa_cons pe_str pa_nil))))) pss_nil))))
      (pss_one (ps_ret pe_non)))), ?_⟩
    refine ⟨_, rfl, v, _, _, _, _, rfl, .ty "tuple", hd.ty, kit_tup dd, _, rfl, ?_⟩
    have two : ∀ (u : V) (du : PyData) (x : Str) (H1 : Hp), Same H H1 → Dq K H1 u du → errD dd = .tuple [du, .str x] → 2 ≤ sizeLine ∧ ∀ p, H1 p = none → Q (.ref p) (upd H1 p (.tup [u, .str x])) := fun u du x H1 s1 hu e =>
      ⟨by decide, fun p hp => k _ _ (s1.trans (same_new hp)) (e ▸ .tup (SqT.of upd_same) (.cons (hu.same (same_new hp)) (.cons (.str _) .nil)))⟩
    cases ht : isTupD dd with
    | false => exact iteT (two .non .none _ H (Same.refl H) .non (errD_tup ht))
    | true =>
      refine iteF ?_
      cases hd with
      | @tup a xs ds hS hall =>
        have hlen := dqAll_len hall
        refine ⟨_, rfl, a, _, rfl, .inr hS, _, _, rfl, rfl, _, rfl, ?_⟩
        by_cases h1 : ¬ (1 : Int) ≤ (xs.length : Int)
        · rw [decide_eq_false h1]
          refine iteF ⟨_, rfl, ?_⟩
          exact iteT (two .non .none _ H (Same.refl H) .non (errD_len (.inl (by omega))))
        rw [decide_eq_true (Decidable.of_not_not h1)]
        refine iteT ⟨_, _, rfl, rfl, _, rfl, ?_⟩
        by_cases h2 : ¬ (xs.length : Int) ≤ 24
        · rw [decide_eq_false h2]
          exact iteT (two .non .none _ H (Same.refl H) .non (errD_len (.inr (by omega))))
        rw [decide_eq_true (Decidable.of_not_not h2)]
        refine iteF ?_
        have he := errD_at (ds := ds) (by omega)
        refine ⟨_, rfl, a, _, rfl, hS, for_enumT (K := K) (a := a) (xs := xs) (fun i σ Hx => ∃ (v1 v2 : Option V) (bs : List Int), σ = [some (.ref a), v1, v2] ∧ Same H Hx ∧ xs.take i = bs.map V.int ∧ errAt i bs (ds.drop i) = errD (.tuple ds))
          ⟨none, none, [], rfl, Same.refl H, rfl, he.symm⟩ (fun i σ Hx _ ⟨_, _, _, _, sx, _⟩ => sameT sx hS) ?_ ?_⟩
        · rintro i y σ Hx T hi ⟨v1, v2, bs, rfl, sx, hbs, her⟩ hT
          obtain ⟨dy, hdy, hqy⟩ := dqAll_get hall hi
          rw [drop_at hdy] at her
          have hil : i < xs.length := (List.getElem?_eq_some_iff.mp hi).1
          refine ⟨T, _, rfl, SqT.of upd_same, rfl, _, _, rfl, _, _, rfl, rfl, ?_⟩
          have sT : Same Hx (upd Hx T (.tup [.int (i : Nat), y])) := same_new hT
          generalize upd Hx T (.tup [.int (i : Nat), y]) = H2 at sT ⊢
          have s2 := sx.trans sT
          refine ⟨_, rfl, y, dy, rfl, hqy.same s2, _, rfl, ?_⟩
          cases ek : keyD dy with
          | false =>
            refine iteT ⟨_, rfl, ?_⟩
            exact two (.int (i : Nat)) (.int (i : Nat)) _ H2 s2 (.int _) (her.symm.trans (errAt_key ek))
          | true =>
            refine iteF ?_
            cases hqy with
            | int z =>
              refine ⟨_, rfl, _, rfl, _, rfl, _, rfl, a, xs, rfl, sameT s2 hS, ?_, fun p hp => ⟨p, _, rfl, .inr (SqT.of upd_same), rfl, ?_, _, rfl, ?_⟩⟩
              · rw [HT.sIx_none, HT.sIx_nat]; omega
              · rw [cut_take (by omega), hbs]; exact flat_ints _
              have s3 := s2.trans (same_new (o := .tup (cutV xs none (some ((i : Nat) : Int)))) hp)
              generalize upd H2 p (.tup (cutV xs none (some ((i : Nat) : Int)))) = H3 at s3 ⊢
              show if inV (.int z) (cutV xs none (some ((i : Nat) : Int))) = true then _ else _
              rw [cut_take (by omega), hbs, in_ints]
              by_cases hm : z ∈ bs
              · rw [decide_eq_true hm]
                refine iteT ⟨_, rfl, ?_⟩
                exact two (.int (i : Nat)) (.int (i : Nat)) _ H3 s3 (.int _) (her.symm.trans (errAt_dup ek hm))
              · rw [decide_eq_false hm]
                refine iteF ⟨_, _, bs ++ [z], rfl, s3, ?_, ?_⟩
                · rw [take_step hi, hbs, List.map_append]; rfl
                · rw [← her, errAt_next ek hm]
            | _ => cases ek
        · rintro σ Hx ⟨v1, v2, bs, rfl, sx, hbs, her⟩
          rw [hlen, List.drop_length] at her
          exact k .non Hx sx (her ▸ .non)
      | _ => cases ht
theorem scIsRow : FnScope ["value"] ["value"] (defScope sIsRow) := ⟨rfl, rfl, rfl, by decide +kernel, rfl, by decide +kernel, by decide +kernel⟩
theorem ok_isrow {f fI : Addr} {fd fdI : FuncData} (F : Fun K "is_row" "is_row" sIsRow f fd) (GI : FnOk P w K mg base CX0 4 fI fdI ["value"] (spErr K)) (mI : mg "row_error" = some (.ref fI)) (kI : PySem.W.keepIn K (.ref fI) = true) (bI : Binds K fdI ["value"] []) :
    FnOk P w K mg base CX0 5 f fd ["value"] (spIsRow K) := by
  refine F.ok scIsRow (fun vs H Q E h => ?_) (fun cdv A outer s H vs Q E hr h => ?_)
  · obtain ⟨v, dd, rfl, _⟩ := h
    rfl
  · obtain ⟨v, dd, rfl, hd, k⟩ := h
    refine ⟨_, pss_one (ps_ret (pe_cmpR op_isN (pe_call GI hr (by rfl) mI kI bI .nil pass0 (pa_cons (pv 0) pa_nil)) pe_non (by rfl))), ?_⟩
    refine ⟨_, rfl, v, dd, rfl, hd, fun r H1 s1 hr1 => ⟨rfl, ?_⟩⟩
    rw [(errD_shape dd).isNon hr1]
    exact k H1 s1
abbrev nLErr : List Str := ["_law_value", "_law_before", "_law_index", "_law_item"]
theorem scLErr : FnScope nLErr ["_law_value"] (defScope sLErr) := ⟨rfl, rfl, rfl, by decide +kernel, rfl, by decide +kernel, by decide +kernel⟩
theorem ok_lerr {f fI : Addr} {fd fdI : FuncData} (F : Fun K "_law_error" "_law_error" sLErr f fd) (GI : FnOk P w K mg base CX0 1 fI fdI ["_law_value"] (spIsKey K)) (mI : mg "_law_is_key" = some (.ref fI)) (kI : PySem.W.keepIn K (.ref fI) = true) (bI : Binds K fdI ["_law_value"] [])
    (misi : mg "isinstance" = none) (mtup : mg "tuple" = none) (mlen : mg "len" = none) (menu : mg "enumerate" = none) : FnOk P w K mg base CX0 2 f fd ["_law_value"] (spErr K) := by
  refine F.ok scLErr (fun vs H Q E h => ?_) (fun cdv A outer s H vs Q E hr h => ?_)
  · obtain ⟨v, dd, rfl, _⟩ := h
    rfl
  · obtain ⟨v, dd, rfl, hd, k⟩ := h
    refine ⟨_, pss_cons (ps_if (pt_not (pt_val (pe_callB call_isi (by rfl) misi (by decide +kernel) (pa_cons (pv 0) (pa_cons (pe_bltn (v := .ty "tuple") (by rfl) mtup (by decide +kernel) rfl) pa_nil))))) (pss_one (ps_ret (pe_tup (pa_cons pe_non (pa_cons pe_str pa_nil))))) pss_nil)
      (pss_cons (ps_if (PW.pt (pw_or (pt_cmpR op_eq (pe_callB call_len_seq (by rfl) mlen PySem.boot_len (pa_cons (pv 0) pa_nil)) pe_int (nomark _)) (pw_or1 (pt_cmpR op_gt (pe_callB call_len_seq (by rfl) mlen PySem.boot_len (pa_cons (pv 0) pa_nil)) pe_int (nomark _))))) (pss_one (ps_ret (pe_tup (pa_cons pe_non (pa_cons pe_str pa_nil))))) pss_nil)
      (pss_cons (ps_set (i := 1) scLErr.nd rfl (.inl rfl) (pe_lst pa_nil))
      (pss_cons (ps_for PassesOwn.never rfl (pi_enumT (by rfl) menu (pa_cons (pv 0) pa_nil)) (pg_tup rfl (pgs_cons (pg_name (i := 2) scLErr.nd rfl (.inl rfl)) (pgs_cons (pg_name (i := 3) scLErr.nd rfl (.inl rfl)) pgs_nil)))
        (pss_cons (ps_if (pt_not (pt_val (pe_call GI hr (by rfl) mI kI bI .nil pass0 (pa_cons (pv 3) pa_nil)))) (pss_one (ps_ret (pe_tup (pa_cons (pv 2) (pa_cons pe_str pa_nil))))) pss_nil)
        (pss_cons (ps_if (pt_cmpR op_gt (pe_bm PySem.F.plainAttrs_list PySem.F.slot_list_count PySem.F.type_list_count mt_lcount (pv 1) (pa_cons (pv 3) pa_nil)) pe_int (nomark _)) (pss_one (ps_ret (pe_tup (pa_cons (pv 2) (pa_cons pe_str pa_nil))))) pss_nil)
        (pss_one (ps_expr (pe_bm PySem.F.plainAttrs_list PySem.F.slot_list_append PySem.F.type_list_append mt_append (pv 1) (pa_cons (pv 3) pa_nil)))))))
      (pss_one (ps_ret pe_non))))), ?_⟩
    refine ⟨_, rfl, v, _, _, _, _, rfl, .ty "tuple", hd.ty, kit_tup dd, _, rfl, ?_⟩
    have two : ∀ (u : V) (du : PyData) (x : Str) (H1 : Hp), Same H H1 → Dq K H1 u du → errD dd = .tuple [du, .str x] → 2 ≤ sizeLine ∧ ∀ p, H1 p = none → Q (.ref p) (upd H1 p (.tup [u, .str x])) := fun u du x H1 s1 hu e =>
      ⟨by decide, fun p hp => k _ _ (s1.trans (same_new hp)) (e ▸ .tup (SqT.of upd_same) (.cons (hu.same (same_new hp)) (.cons (.str _) .nil)))⟩
    cases ht : isTupD dd with
    | false => exact iteT (two .non .none _ H (Same.refl H) .non (errD_tup ht))
    | true =>
      refine iteF ?_
      cases hd with
      | @tup a xs ds hS hall =>
        have hlen := dqAll_len hall
        refine ⟨_, rfl, a, _, rfl, .inr hS, rfl, _, rfl, ?_⟩
        by_cases h1 : xs.length = 0
        · rw [decide_eq_true (show V.int (xs.length : Int) = V.int 0 by rw [h1]; rfl)]
          refine iteT ?_
          exact iteT (two .non .none _ H (Same.refl H) .non (errD_len (.inl (by omega))))
        rw [decide_eq_false (show ¬ V.int (xs.length : Int) = V.int 0 from fun z => h1 (by have := V.int.inj z; omega))]
        refine iteF ⟨_, rfl, a, _, rfl, .inr hS, _, _, rfl, rfl, _, rfl, ?_⟩
        by_cases h2 : (24 : Int) < (xs.length : Int)
        · rw [decide_eq_true h2]
          exact iteT (two .non .none _ H (Same.refl H) .non (errD_len (.inr (by omega))))
        rw [decide_eq_false h2]
        refine iteF ?_
        have he := errD_at (ds := ds) (by omega)
        refine ⟨Nat.zero_le _, fun g hg => ?_⟩
        have sg : Same H (upd H g (.lst [])) := same_new hg
        have hgg : upd H g (.lst []) g = some (.lst []) := upd_same
        generalize upd H g (.lst []) = H1 at sg hgg ⊢
        refine ⟨_, rfl, a, _, rfl, sameT sg hS, for_enumT (K := K) (a := a) (xs := xs) (fun i σ Hx => ∃ (v1 v2 : Option V) (bs : List Int), σ = [some (.ref a), some (.ref g), v1, v2] ∧ Same H Hx ∧ Hx g = some (.lst (bs.map V.int)) ∧ bs.length = i ∧ errAt i bs (ds.drop i) = errD (.tuple ds))
          ⟨none, none, [], rfl, sg, hgg, rfl, he.symm⟩ (fun i σ Hx _ ⟨_, _, _, _, sx, _⟩ => sameT sx hS) ?_ ?_⟩
        · rintro i y σ Hx T hi ⟨v1, v2, bs, rfl, sx, hgx, hbs, her⟩ hT
          obtain ⟨dy, hdy, hqy⟩ := dqAll_get hall hi
          rw [drop_at hdy] at her
          have hil : i < xs.length := (List.getElem?_eq_some_iff.mp hi).1
          refine ⟨T, _, rfl, SqT.of upd_same, rfl, _, _, rfl, _, _, rfl, rfl, ?_⟩
          have sT : Same Hx (upd Hx T (.tup [.int (i : Nat), y])) := same_new hT
          generalize upd Hx T (.tup [.int (i : Nat), y]) = H2 at sT ⊢
          have s2 := sx.trans sT
          have hg2 := sT _ _ hgx
          refine ⟨_, rfl, y, dy, rfl, hqy.same s2, _, rfl, ?_⟩
          cases ek : keyD dy with
          | false =>
            refine iteT ⟨_, rfl, ?_⟩
            exact two (.int (i : Nat)) (.int (i : Nat)) _ H2 s2 (.int _) (her.symm.trans (errAt_key ek))
          | true =>
            refine iteF ?_
            cases hqy with
            | int z =>
              refine ⟨_, rfl, .inl ⟨rfl, _, SqL.of hg2⟩, _, rfl, g, bs, z, rfl, rfl, SqL.of hg2, _, _, rfl, rfl, _, rfl, ?_⟩
              by_cases hm : z ∈ bs
              · rw [decide_eq_true (show (0 : Int) < ((bs.count z : Nat) : Int) from by have := List.count_pos_iff.mpr hm; omega)]
                refine iteT ⟨_, rfl, ?_⟩
                exact two (.int (i : Nat)) (.int (i : Nat)) _ H2 s2 (.int _) (her.symm.trans (errAt_dup ek hm))
              · rw [decide_eq_false (show ¬ (0 : Int) < ((bs.count z : Nat) : Int) from by have := List.count_eq_zero.mpr hm; omega)]
                refine iteF ⟨_, rfl, .inl ⟨rfl, _, SqL.of hg2⟩, _, rfl, g, _, _, rfl, rfl, hg2, by rw [List.length_map]; exact small1000 (by omega), ?_⟩
                refine ⟨_, _, bs ++ [z], rfl, fun b o e => ?_, ?_, by rw [List.length_append, hbs]; rfl, ?_⟩
                · rw [upd_ne (fun z' => by rw [z', hg] at e; cases e)]; exact s2 _ _ e
                · rw [List.map_append]; exact upd_same
                · rw [← her, errAt_next ek hm]
            | _ => cases ek
        · rintro σ Hx ⟨v1, v2, bs, rfl, sx, hgx, hbs, her⟩
          rw [hlen, List.drop_length] at her
          exact k .non Hx sx (her ▸ .non)
      | _ => cases ht
end
end LW

namespace KX
open PySem L2
theorem sl_from {K : PySem.W.Frag} {H : Hp} {d c z a : Addr} {xs : List V} {lo : Option Int} {σ : L2.St} {Q : VK} (S : SupE H d c z) (hS : SqT K (hideX H d c z) a xs)
    (k : ∀ (q : Addr) (H' : Hp), SupE H' d c z → SameX H H' d c → SqT K (hideX H' d c z) q (cutV xs lo none) → Q (.ref q) H') : tNoPart σ H fun u H3 => rSlA K (.ref a) lo u H3 Q := sl_any S hS k
end KX
namespace LW
open PySem L2 KX
abbrev sBent : Stmt := top 16
section
variable {P : Program} {w : World} {K : PySem.W.Frag} {mg : Str → Option Value} {base : Heap}
abbrev nBent : List Str := ["_law_supply_here", "_law_value", "_law_at", "_law_head", "_law_tail", "_law_new", "_law_some"]
theorem scBent : FnScope nBent ["_law_supply_here", "_law_value"] (defScope sBent) := ⟨rfl, rfl, rfl, by decide +kernel, rfl, by decide +kernel, by decide +kernel⟩
theorem ok_bent {f fT fO fD : Addr} {fd fdT fdO fdD : FuncData} (F : Fun K "_law_bent" "_law_bent" sBent f fd)
    (GT : FnOk P w K mg base CX0 1 fT fdT ["_law_supply_here", "_law_many"] spTake) (mT : mg "_law_take" = some (.ref fT)) (kT : PySem.W.keepIn K (.ref fT) = true) (bT : Binds K fdT ["_law_supply_here", "_law_many"] [])
    (GO : FnOk P w K mg base CX0 2 fO fdO ["_law_supply_here", "_law_items"] (spOne K)) (mO : mg "_law_one" = some (.ref fO)) (kO : PySem.W.keepIn K (.ref fO) = true) (bO : Binds K fdO ["_law_supply_here", "_law_items"] [])
    (GD : FnOk P w K mg base CX0 3 fD fdD ["_law_supply_here"] (spOdd K)) (mD : mg "_law_odd" = some (.ref fD)) (kD : PySem.W.keepIn K (.ref fD) = true) (bD : Binds K fdD ["_law_supply_here"] [])
    (mlen : mg "len" = none) (mstr : mg "str" = none) (mlis : mg "list" = none) : FnOk P w K mg base CX0 4 f fd ["_law_supply_here", "_law_value"] (spBent K) := by
  refine F.ok scBent (fun vs H Q E h => ?_) (fun cdv A outer s H vs Q E hr h => ?_)
  · obtain ⟨d, c, z, a, row, rfl, _⟩ := h
    rfl
  · obtain ⟨d, c, z, a, row, rfl, S, ha, hR, hl, k⟩ := h
    have hr1 : Room 1 _ := hr.mono (by decide)
    have hr2 : Room 2 _ := hr.mono (by decide)
    refine ⟨_, pss_cons (ps_set (i := 2) scBent.nd rfl (.inl rfl) (pe_call GT hr1 (by rfl) mT kT bT .nil pass0 (pa_cons (pv 0) (pa_cons (pe_op op_add (pe_callB call_len_seq (by rfl) mlen PySem.boot_len (pa_cons (pv 1) pa_nil)) pe_int) pa_nil))))
      (pss_cons (ps_par (i := 3) (j := 4) rfl scBent.nd rfl rfl (by decide) rfl rfl (pa_cons (pe_slice sl_tupA (pv 1) po_none (po_some (pv 2))) (pa_cons (pe_slice sl_tupA (pv 1) (po_some (pv 2)) po_none) pa_nil)) (by rfl))
      (pss_cons (ps_set (i := 5) scBent.nd rfl (.inl rfl) (pe_ix ix_list (pe_lst (pa_cons (pe_call GD hr (by rfl) mD kD bD .nil pass0 (pa_cons (pv 0) pa_nil)) (pa_cons (pe_un un_neg pe_int) (pa_cons (pe_op op_add (pe_op op_pow pe_int pe_int) pe_int) (pa_cons (pe_lst (pa_cons pe_int pa_nil)) pa_nil))))) (pe_call GT hr1 (by rfl) mT kT bT .nil pass0 (pa_cons (pv 0) (pa_cons pe_int pa_nil))) (fun _ _ => rfl)))
      (pss_cons (ps_if (PW.pt (pw_and (pt_cmpR (op_neD hr.units) (pv 4) (pe_tup pa_nil) (nomark _)) (pw_and1 (pt_cmpR op_eq (pe_call GT hr1 (by rfl) mT kT bT .nil pass0 (pa_cons (pv 0) (pa_cons pe_int pa_nil))) pe_int (nomark _)))))
        (pss_one (ps_set (i := 5) scBent.nd rfl (.inl rfl) (pe_ix ix_list (pe_lst (pa_cons (pe_cmpR op_eq (pe_ix ix_tup (pv 4) pe_int (fun _ _ => rfl)) pe_int (by rfl)) (pa_cons (pe_callTy call_str_int (by rfl) mstr (by decide +kernel) (pa_cons (pe_ix ix_tup (pv 4) pe_int (fun _ _ => rfl)) pa_nil)) (pa_cons (pe_tup (pa_cons (pe_ix ix_tup (pv 4) pe_int (fun _ _ => rfl)) pa_nil)) pa_nil)))) (pe_call GT hr1 (by rfl) mT kT bT .nil pass0 (pa_cons (pv 0) (pa_cons pe_int pa_nil))) (fun _ _ => rfl)))) pss_nil)
      (pss_cons (ps_set (i := 6) scBent.nd rfl (.inl rfl) (pe_lst (pa_cons (pe_op op_catA (pe_op op_catA (pv 3) (pe_tup (pa_cons (pv 5) pa_nil))) (pv 4)) (pa_cons (pe_op op_catA (pe_op op_catA (pv 3) (pe_tup (pa_cons (pv 5) pa_nil))) (pe_slice sl_tupA (pv 4) (po_some pe_int) po_none))
        (pa_cons (pe_op op_catA (pv 3) (pe_slice sl_tupA (pv 4) (po_some pe_int) po_none)) (pa_cons (pe_op op_catA (pe_op op_catA (pv 3) (pe_slice sl_tupA (pv 4) po_none (po_some pe_int))) (pv 4)) (pa_cons (pe_callTy call_list_of (by rfl) mlis (by decide +kernel) (pa_cons (pv 1) pa_nil)) pa_nil)))))))
      (pss_one (ps_ret (pe_call GO hr2 (by rfl) mO kO bO .nil pass0 (pa_cons (pv 0) (pa_cons (pv 6) pa_nil))))))))), ?_⟩
    have hlv : (row.map V.int).length = row.length := List.length_map _
    refine ⟨_, rfl, _, rfl, a, _, rfl, .inr (SqT.of (hide_same _ _ ha)), _, _, rfl, rfl, d, c, _, rfl, S.s, by rw [hlv]; omega, by rw [hlv]; omega, fun r H1 r0 r1 S1 x1 => ?_⟩
    have S1 := S.next S1 x1
    rw [hlv] at r1
    obtain ⟨j, rfl, hj⟩ : ∃ j : Nat, r = (j : Int) ∧ j ≤ row.length := ⟨r.toNat, by omega, by omega⟩
    have ha1 := hide_mono x1 _ _ ha
    refine ⟨_, rfl, _, rfl, _, rfl, sl_any S1 (SqT.of ha1) fun q1 H2 S2 x2 f2 => ?_⟩
    refine ⟨_, rfl, _, rfl, _, rfl, sl_from S2 (SqT.of (hide_mono x2 _ _ ha1)) fun q2 H3 S3 x3 f3 => ⟨_, _, rfl, ?_⟩⟩
    have f2' := sameT (hide_mono x3) f2
    rw [cut_to] at f2'
    rw [cut_from] at f3
    have x13 := (x1.trans x2).trans x3
    have ha3 := hide_mono x13 _ _ ha
    clear ha1 f2
    -- the value that is put in
    refine ⟨_, rfl, d, c, z, rfl, S3, fun w1 dd1 H4 hdd1 hw1 S4 x4 => ?_⟩
    refine ⟨1, rfl, _, _, rfl, rfl, ⟨by decide, by decide, by decide⟩, _, _, rfl, rfl, by show 1 ≤ sizeLine; decide, fun q4 h4 => ?_⟩
    obtain ⟨S5, x5, f5⟩ := new_step (o := .lst [.int 0]) S4 h4
    generalize upd H4 q4 (.lst [.int 0]) = H5 at S5 x5 f5 ⊢
    refine ⟨by show 4 ≤ sizeLine; decide, fun q5 h5 => ?_⟩
    show tCall _ _ _ _ _ (upd H5 q5 (.lst [w1, .int (-1), .int 1000000000001, .ref q4])) _
    obtain ⟨S6, x6, f6⟩ := new_step (o := .lst [w1, .int (-1), .int 1000000000001, .ref q4]) S5 h5
    generalize upd H5 q5 (.lst [w1, .int (-1), .int 1000000000001, .ref q4]) = H6 at S6 x6 f6 ⊢
    refine ⟨_, rfl, d, c, _, rfl, S6.s, by decide, by decide, fun r H7 r0 r1 S7 x7 => ?_⟩
    have S7 := S6.next S7 x7
    obtain ⟨i, rfl, hi⟩ : ∃ i : Nat, r = (i : Int) ∧ i < 4 := ⟨r.toNat, by omega, by omega⟩
    have hn : Parts K (hideX H7 d c z) [w1, .int (-1), .int 1000000000001, .ref q4] := by
      refine .cons ⟨dd1, hw1.mono ((x5.trans x6).trans x7), (odd_fine dd1 hdd1).mono (by decide) (by decide)⟩ (.cons ⟨_, .int _, ((FineD.int (by decide)).q.mono (by decide) (by decide) : FineQ _ 2 300)⟩ (.cons ⟨_, .int _, ((FineD.int (by decide)).q.mono (by decide) (by decide) : FineQ _ 2 300)⟩ (.cons ⟨.list [.int 0], .lst (SqL.of (hide_mono (x6.trans x7) _ _ f5)) (.cons (.int 0) .nil), ⟨rfl, by decide, by decide +kernel⟩⟩ .nil)))
    have hil : i < ([w1, .int (-1), .int 1000000000001, .ref q4] : List V).length := hi
    refine ⟨q5, _, _, _, rfl, rfl, SqL.of (hide_same _ _ (hide_mono x7 _ _ f6)), atI_nat (List.getElem?_eq_getElem hil), ?_⟩
    have hnv := hn _ (List.getElem_mem hil)
    generalize ([w1, .int (-1), .int 1000000000001, .ref q4] : List V)[i] = nv at hnv ⊢
    have x37 := ((x4.trans x5).trans x6).trans x7
    have f2a := sameT (hide_mono x37) f2'
    have f3a := sameT (hide_mono x37) f3
    have ha7 := hide_mono x37 _ _ ha3
    have x17 := x13.trans x37
    clear hn hw1 f2' f3 ha3 f5 f6
    dsimp only [gName]
    refine cut_seq (fun σ Hn => ∃ nv, σ = [some (.ref d), some (.ref a), some (.int (j : Nat)), some (.ref q1), some (.ref q2), some nv, none] ∧ SupE Hn d c z ∧ SameX H7 Hn d c ∧ Part K (hideX Hn d c z) nv) ?_ (fun N hN => ?_)
    · rintro σ Hn ⟨nv, rfl, Sn, xn, hnv⟩
      have g1 := sameT (hide_mono xn) f2a
      have g2 := sameT (hide_mono xn) f3a
      have ga := hide_mono xn _ _ ha7
      have xHn := x17.trans xn
      have lh : ((row.take j).map V.int).length = j := by rw [List.length_map, List.length_take]; omega
      have lt : ((row.drop j).map V.int).length = row.length - j := by rw [List.length_map, List.length_drop]
      have ph : ∀ Hz, Parts K Hz ((row.take j).map V.int) := fun Hz => .ints fun z hz => hR.small z (List.mem_of_mem_take hz)
      have pt : ∀ Hz, Parts K Hz ((row.drop j).map V.int) := fun Hz => .ints fun z hz => hR.small z (List.mem_of_mem_drop hz)
      generalize hhs : (row.take j).map V.int = hs at g1 lh ph
      generalize hts : (row.drop j).map V.int = ts at g2 lt pt
      clear hhs hts f2a f3a
      have lc : ∀ lo hi, (cutV ts lo hi).length ≤ ts.length := fun lo hi => cutV_length ts lo hi
      refine ⟨_, rfl, _, rfl, by show 1 ≤ sizeLine; decide, fun t1 ht1 => ?_⟩
      obtain ⟨S1', y1, e1⟩ := new_step (o := .tup [nv]) Sn ht1
      generalize upd Hn t1 (.tup [nv]) = G1 at S1' y1 e1 ⊢
      refine cat_any S1' (sameT (hide_mono y1) g1) (SqT.of e1) (by rw [lh]; show j + 1 ≤ 1000; omega) fun p1 G2 S2' y2 e2 => ?_
      refine ⟨_, rfl, cat_any S2' e2 (sameT (hide_mono (y1.trans y2)) g2) (by rw [List.length_append, lh, lt]; show j + 1 + (row.length - j) ≤ 1000; omega) fun p2 G3 S3' y3 e3 => ?_⟩
      refine ⟨_, rfl, _, rfl, by show 1 ≤ sizeLine; decide, fun t2 ht2 => ?_⟩
      obtain ⟨S4', y4, e4⟩ := new_step (o := .tup [nv]) S3' ht2
      generalize upd G3 t2 (.tup [nv]) = G4 at S4' y4 e4 ⊢
      have y14 := ((y1.trans y2).trans y3).trans y4
      refine cat_any S4' (sameT (hide_mono y14) g1) (SqT.of e4) (by rw [lh]; show j + 1 ≤ 1000; omega) fun p3 G5 S5' y5 e5 => ?_
      refine ⟨_, rfl, 1, rfl, sl_from S5' (sameT (hide_mono (y14.trans y5)) g2) fun p4 G6 S6' y6 e6 => ?_⟩
      have l1 := lc (some 1) none
      refine cat_any S6' (sameT (hide_mono y6) e5) e6 (by rw [List.length_append, lh]; show j + 1 + _ ≤ 1000; omega) fun p5 G7 S7' y7 e7 => ?_
      have y17 := ((y14.trans y5).trans y6).trans y7
      refine ⟨_, rfl, _, rfl, 1, rfl, sl_from S7' (sameT (hide_mono y17) g2) fun p6 G8 S8' y8 e8 => ?_⟩
      refine cat_any S8' (sameT (hide_mono (y17.trans y8)) g1) e8 (by rw [lh]; omega) fun p7 G9 S9' y9 e9 => ?_
      have y19 := (y17.trans y8).trans y9
      refine ⟨_, rfl, _, rfl, 1, rfl, sl_any S9' (sameT (hide_mono y19) g2) fun p8 G10 S10' y10 e10 => ?_⟩
      have l2 := lc none (some 1)
      refine cat_any S10' (sameT (hide_mono (y19.trans y10)) g1) e10 (by rw [lh]; omega) fun p9 G11 S11' y11 e11 => ?_
      have y111 := (y19.trans y10).trans y11
      refine ⟨_, rfl, cat_any S11' e11 (sameT (hide_mono y111) g2) (by rw [List.length_append, lh]; omega) fun p10 G12 S12' y12 e12 => ?_⟩
      have y112 := y111.trans y12
      refine ⟨_, rfl, a, _, rfl, .inr (SqT.of (hide_same _ _ (hide_mono y112 _ _ ga))), fun m1 hm1 => ?_⟩
      obtain ⟨S13', y13, e13⟩ := new_step (o := .lst (row.map V.int)) S12' hm1
      generalize upd G12 m1 (.lst (row.map V.int)) = G13 at S13' y13 e13 ⊢
      refine ⟨by show 5 ≤ sizeLine; decide, fun m2 hm2 => ?_⟩
      obtain ⟨S14', y14', e14⟩ := new_step (o := .lst [.ref p2, .ref p5, .ref p7, .ref p10, .ref m1]) S13' hm2
      generalize upd G13 m2 (.lst [.ref p2, .ref p5, .ref p7, .ref p10, .ref m1]) = G14 at S14' y14' e14 ⊢
      have yall := (y112.trans y13).trans y14'
      have hnv' := hnv.same (hide_mono yall)
      have af : AllFine K (hideX G14 d c z) [.ref p2, .ref p5, .ref p7, .ref p10, .ref m1] := by
        obtain ⟨u1, v1, w1⟩ := Parts.tup (((ph _).app (.cons hnv' .nil)).app (pt _)) (sameT (hide_mono ((((((((((((y4.trans y5).trans y6).trans y7).trans y8).trans y9).trans y10).trans y11).trans y12).trans y13).trans y14')))) e3) (by rw [List.length_append, List.length_append, lh, lt]; show j + 1 + _ ≤ 30; omega)
        obtain ⟨u2, v2, w2⟩ := Parts.tup (((ph _).app (.cons hnv' .nil)).app (pt _).cut) (sameT (hide_mono (((((((y8.trans y9).trans y10).trans y11).trans y12).trans y13).trans y14'))) e7) (by rw [List.length_append, List.length_append, lh]; show j + 1 + _ ≤ 30; omega)
        obtain ⟨u3, v3, w3⟩ := Parts.tup ((ph _).app (pt _).cut) (sameT (hide_mono (((((y10.trans y11).trans y12).trans y13).trans y14'))) e9) (by rw [List.length_append, lh]; omega)
        have l3 : (cutV ts none (some 1)).length ≤ 1 := by
          unfold cutV
          rw [List.length_take, show (some (1 : Int)) = some ((1 : Nat) : Int) from rfl, HT.sIx_nat, HT.sIx_none]
          omega
        obtain ⟨u4, v4, w4⟩ := Parts.tup (((ph _).app (pt _).cut).app (pt _)) (sameT (hide_mono (y13.trans y14')) e12) (by rw [List.length_append, List.length_append, lh, lt]; omega)
        obtain ⟨u5, v5, w5⟩ := Parts.lst (Parts.ints hR.small) (SqL.of (hide_mono y14' _ _ e13)) (by rw [hlv]; omega)
        exact .cons v1 w1 (.cons v2 w2 (.cons v3 w3 (.cons v4 w4 (.cons v5 w5 .nil))))
      refine ⟨_, rfl, _, rfl, d, c, z, m2, _, rfl, S14'.s, SqL.of e14, (fun z => nomatch z), by show 5 ≤ 1000; decide, fun v H' hv S' x' => ?_⟩
      obtain ⟨dd, q1', q2'⟩ := af v hv
      exact k v dd H' (Dq.same (hide_mono x') q1') q2' (S14'.next S' x') ((xHn.trans yall).trans x')
    · refine ⟨_, rfl, Nat.zero_le _, fun e he => ?_⟩
      obtain ⟨S8, x8, f8⟩ := new_step (o := .tup []) S7 he
      generalize upd H7 e (.tup []) = H8 at S8 x8 f8 ⊢
      have f3b := sameT (hide_mono x8) f3a
      refine ⟨.tuple ((row.drop j).map PyData.int), .tuple [], .tup (sameT hide_same f3b) (dp_ints _), .tup (SqT.of (hide_same _ _ f8)) .nil, shaped_tints _, shaped_tints [], _, rfl, ?_⟩
      rw [show PyData.eqv (.tuple ((row.drop j).map PyData.int)) (.tuple []) = decide (row.drop j = []) from eqv_tints _ []]
      by_cases hem : row.drop j = []
      · rw [decide_eq_true hem]
        refine iteF ?_
        refine iteF ?_
        exact hN _ _ ⟨nv, rfl, S8, x8, hnv.same (hide_mono x8)⟩
      rw [decide_eq_false hem]
      refine iteT ?_
      refine ⟨_, rfl, d, c, _, rfl, S8.s, by decide, by decide, fun r H9 _ _ S9 x9 => ⟨rfl, _, rfl, ?_⟩⟩
      have S9 := S8.next S9 x9
      have x79 := x8.trans x9
      refine ite2 (fun _ => ?_) (fun _ => hN _ _ ⟨nv, rfl, S9, x79, hnv.same (hide_mono x79)⟩)
      obtain ⟨t0, rest, hrow⟩ := List.exists_cons_of_ne_nil hem
      have ht0 : t0 ∈ row := List.mem_of_mem_drop (hrow ▸ List.mem_cons_self)
      have hat0 : atI ((row.drop j).map V.int) 0 = some (V.int t0) := by rw [hrow]; exact atI_nat (j := 0) rfl
      have hk0 := hR.key t0 ht0
      have hlog : t0.natAbs.log2 < 1920 := by have := (FineD.int (hR.small t0 ht0)).sh; simpa [PyData.showable] using this
      have f3c := sameT hide_same (sameT (hide_mono x9) f3b)
      refine ⟨_, rfl, q2, _, _, _, rfl, rfl, f3c, hat0, rfl, _, rfl, q2, _, _, _, rfl, rfl, f3c, hat0, t0, rfl, hlog, _, rfl, q2, _, _, _, rfl, rfl, f3c, hat0, by show 1 ≤ sizeLine; decide, fun e1 he1 => ?_⟩
      obtain ⟨S10, x10, f10⟩ := new_step (o := .tup [.int t0]) S9 he1
      generalize upd H9 e1 (.tup [.int t0]) = H10 at S10 x10 f10 ⊢
      refine ⟨by show 3 ≤ sizeLine; decide, fun e2 he2 => ?_⟩
      obtain ⟨S11, x11, f11⟩ := new_step (o := .lst [.bl (decide (V.int t0 = V.int 1)), .str (Str.ofString (toString t0)), .ref e1]) S10 he2
      show tCall _ _ _ _ _ (upd H10 e2 (.lst [.bl (decide (V.int t0 = V.int 1)), .str (Str.ofString (toString t0)), .ref e1])) _
      generalize upd H10 e2 (.lst [.bl (decide (V.int t0 = V.int 1)), .str (Str.ofString (toString t0)), .ref e1]) = H11 at S11 x11 f11 ⊢
      refine ⟨_, rfl, d, c, _, rfl, S11.s, by decide, by decide, fun r H12 r0 r1 S12 x12 => ?_⟩
      have S12 := S11.next S12 x12
      obtain ⟨m, rfl, hm⟩ : ∃ i : Nat, r = (i : Int) ∧ i < 3 := ⟨r.toNat, by omega, by omega⟩
      have hn : Parts K (hideX H12 d c z) [.bl (decide (V.int t0 = V.int 1)), .str (Str.ofString (toString t0)), .ref e1] := by
        refine .cons ⟨_, .bl _, (FineD.bool _).q.mono (by decide) (by decide)⟩ (.cons ⟨_, .str _, (fine_num hk0.1 (by omega)).mono (by decide) (by decide)⟩ (.cons ⟨.tuple [.int t0], .tup (SqT.of (hide_mono (x11.trans x12) _ _ f10)) (.cons (.int t0) .nil), ?_⟩ .nil))
        exact (FineQ.tup (ds := [.int t0]) (dep := 0) (B := 14) fun y hy => by rw [List.mem_singleton] at hy; subst hy; exact (FineD.int (hR.small _ ht0)).q).mono (by decide) (by show 1 * (14 + 2) + 3 ≤ 300; decide)
      have hml : m < ([.bl (decide (V.int t0 = V.int 1)), .str (Str.ofString (toString t0)), .ref e1] : List V).length := hm
      refine ⟨e2, _, _, _, rfl, rfl, SqL.of (hide_same _ _ (hide_mono x12 _ _ f11)), atI_nat (List.getElem?_eq_getElem hml), ?_⟩
      exact hN _ _ ⟨_, rfl, S12, ((x79.trans x10).trans x11).trans x12, hn _ (List.getElem_mem hml)⟩
end
end LW

namespace KX
open PySem L2
theorem hide_upd {H : Hp} {d c D : Addr} {o : HO} : hideX (upd H D o) d c D = hideX H d c D := by
  funext b
  unfold hideX
  by_cases h : b = d ∨ b = c ∨ b = D
  · rw [if_pos h, if_pos h]
  · rw [if_neg h, if_neg h, upd_ne fun z => h (.inr (.inr z))]
theorem hide_more {H : Hp} {d c D : Addr} : Same (hideX H d c D) (hideX H d c d) := fun b o h => by
  obtain ⟨h1, h2, _, h4⟩ := hide_of h
  rw [hide_at h1 h2 h1]; exact h4
theorem fine_dict1 {x : Str} {B : Nat} (h : FineQ (.str x) 0 B) : FineQ (.dict (kvD [(x, 1)])) 1 (B + 50) := by
  refine ⟨?_, ?_, ?_⟩
  · rfl
  · simp only [kvD, List.map_cons, List.map_nil, PyData.depth, PyData.depthKv]; decide
  · have h1 := dictText_len_le (PyData.shownKv (kvD [(x, 1)]))
    have h2 := h.sz
    have e : PyData.shown (.dict (kvD [(x, 1)])) = dictText (PyData.shownKv (kvD [(x, 1)])) := by simp only [PyData.shown]
    rw [e]
    refine Nat.le_trans h1 ?_
    simp only [kvD, List.map_cons, List.map_nil, PyData.shownKv, List.sum_cons, List.sum_nil, List.length_cons, List.length_nil, Str.length_append]
    have h3 : (PyData.shown (.int 1)).length ≤ 14 := (FineD.int (by decide)).q.sz
    have h4 : (": " : Str).length = 2 := by decide
    omega
end KX
namespace LW
open PySem L2 KX
abbrev sVals : Stmt := top 19
section
variable {P : Program} {w : World} {K : PySem.W.Frag} {mg : Str → Option Value} {base : Heap}
abbrev nVals : List Str := ["_law_supply_here", "_law_row_here", "_law_many", "_law_at", "_law_values_here", "_law_k"]
theorem scVals : FnScope nVals ["_law_supply_here"] (defScope sVals) := ⟨rfl, rfl, rfl, by decide +kernel, rfl, by decide +kernel, by decide +kernel⟩
theorem ok_vals {f fT fK fR fB fD : Addr} {fd fdT fdK fdR fdB fdD : FuncData} (F : Fun K "_law_values" "_law_values" sVals f fd)
    (GT : FnOk P w K mg base CX0 1 fT fdT ["_law_supply_here", "_law_many"] spTake) (mT : mg "_law_take" = some (.ref fT)) (kT : PySem.W.keepIn K (.ref fT) = true) (bT : Binds K fdT ["_law_supply_here", "_law_many"] [])
    (GK : FnOk P w K mg base CX0 2 fK fdK ["_law_supply_here", "_law_n"] spKeys) (mK : mg "_law_keys" = some (.ref fK)) (kK : PySem.W.keepIn K (.ref fK) = true) (bK : Binds K fdK ["_law_supply_here", "_law_n"] [])
    (GR : FnOk P w K mg base CX0 3 fR fdR ["_law_supply_here", "_law_most"] spRow) (mR : mg "_law_row" = some (.ref fR)) (kR : PySem.W.keepIn K (.ref fR) = true) (bR : Binds K fdR ["_law_supply_here", "_law_most"] [])
    (GB : FnOk P w K mg base CX0 4 fB fdB ["_law_supply_here", "_law_value"] (spBent K)) (mB : mg "_law_bent" = some (.ref fB)) (kB : PySem.W.keepIn K (.ref fB) = true) (bB : Binds K fdB ["_law_supply_here", "_law_value"] [])
    (GD : FnOk P w K mg base CX0 3 fD fdD ["_law_supply_here"] (spOdd K)) (mD : mg "_law_odd" = some (.ref fD)) (kD : PySem.W.keepIn K (.ref fD) = true) (bD : Binds K fdD ["_law_supply_here"] [])
    (mlen : mg "len" = none) (mstr : mg "str" = none) (mtup : mg "tuple" = none) (mran : mg "range" = none) : FnOk P w K mg base CX0 5 f fd ["_law_supply_here"] (spVals K) := by
  refine F.ok scVals (fun vs H Q E h => ?_) (fun cdv A outer s H vs Q E hr h => ?_)
  · obtain ⟨d, c, rfl, _⟩ := h
    rfl
  · obtain ⟨d, c, rfl, S, k⟩ := h
    have hr1 : Room 1 _ := hr.mono (by decide)
    have hr2 : Room 2 _ := hr.mono (by decide)
    have hr3 : Room 3 _ := hr.mono (by decide)
    refine ⟨_, pss_cons (ps_set (i := 1) scVals.nd rfl (.inr rfl) (pe_call GR hr3 (by rfl) mR kR bR .nil pass0 (pa_cons (pv 0) (pa_cons pe_int pa_nil))))
      (pss_cons (ps_set (i := 2) scVals.nd rfl (.inl rfl) (pe_callTy call_tuple_of (by rfl) mtup (by decide +kernel) (pa_cons (pe_call GK hr2 (by rfl) mK kK bK .nil pass0 (pa_cons (pv 0) (pa_cons (pe_op op_add pe_int (pe_call GT hr1 (by rfl) mT kT bT .nil pass0 (pa_cons (pv 0) (pa_cons pe_int pa_nil)))) pa_nil))) pa_nil)))
      (pss_cons (ps_set (i := 3) scVals.nd rfl (.inl rfl) (pe_call GT hr1 (by rfl) mT kT bT .nil pass0 (pa_cons (pv 0) (pa_cons (pe_callB call_len_seq (by rfl) mlen PySem.boot_len (pa_cons (pv 1) pa_nil)) pa_nil))))
      (pss_cons (ps_set (i := 4) scVals.nd rfl (.inl rfl) (pe_lst (pa_cons (pv 1) (pa_cons (pe_op op_catA (pv 1) (pe_slice sl_tupA (pv 1) (po_some (pv 3)) (po_some (pe_op op_add (pv 3) pe_int)))) (pa_cons (pe_slice sl_tupA (pv 1) po_none (po_some (pv 3)))
        (pa_cons (pv 2) (pa_cons (pe_op op_catA (pv 2) (pe_tup (pa_cons pe_str pa_nil))) (pa_cons (pe_revT (pv 1) (po_some (pe_un un_neg pe_int))) (pa_cons (pe_op op_catA (pv 1) (pe_tup (pa_cons pe_non pa_nil))) (pa_cons (pe_op op_catA (pe_tup (pa_cons (pe_lst pa_nil) pa_nil)) (pv 1))
        (pa_cons (pe_tup (pa_cons (pv 1) pa_nil)) pa_nil)))))))))))
      (pss_one (ps_ret (pe_op op_cat (pe_op op_cat (pv 4) (pe_lc (own := [("_law_k", 5)]) (g := gName 5) (tt := tYes) rfl scVals.nd (pi_range1 (by rfl) mran (pa_cons pe_int pa_nil))
          (blkOk_by (own := [("_law_k", 5)]) (N := nVals) (sc := defScope sVals) (by decide +kernel)) (fun _ _ _ _ _ => pg_name (i := 5) scVals.nd rfl (.inl rfl)) (fun _ _ _ _ _ => pts_nil)
          (fun _ _ _ _ _ => pe_call GB hr (by rfl) mB kB bB .nil pass0 (pa_cons (pv 0) (pa_cons (pv 1) pa_nil)))))
        (pe_lst (pa_cons (pe_call GD hr3 (by rfl) mD kD bD .nil pass0 (pa_cons (pv 0) pa_nil)) (pa_cons (pe_disp (pps_cons (pe_callTy call_str_int (by rfl) mstr (by decide +kernel) (pa_cons (pe_ix ix_tup (pv 1) pe_int (fun _ _ => rfl)) pa_nil)) pe_int pps_nil) (by rfl) (by rfl) (fun z => by cases z) (by decide)) pa_nil))))))))), ?_⟩
    refine ⟨_, rfl, d, c, 24, rfl, S, by decide, by decide, fun p H1 row hR hl1 hl2 S1 x1 hp0 hp => ?_⟩
    have hpd : p ≠ d := fun z => S.hasD (z ▸ hp0)
    have hpc : p ≠ c := fun z => S.hasC (z ▸ hp0)
    have hlv : (row.map V.int).length = row.length := List.length_map _
    refine ⟨_, rfl, _, rfl, d, c, 2, rfl, S1, by decide, by decide, fun r H2 r0 r1 S2 x2 => ?_⟩
    obtain ⟨m, rfl, hm⟩ : ∃ i : Nat, r = (i : Int) ∧ i < 2 := ⟨r.toNat, by omega, by omega⟩
    refine ⟨_, _, rfl, rfl, d, c, 25 + m, by rw [Int.natCast_add]; rfl, S2, by omega, by omega, fun g H3 ks hlen hks S3 x3 hg0 hg => ?_⟩
    refine ⟨g, _, rfl, .inl ⟨SqL.of hg, fun q hq => ?_⟩⟩
    have hp3 : hideX H3 d c d p = some (.tup (row.map V.int)) := by
      rw [hide_at hpd hpc hpd]; exact x3 _ _ hpd hpc (x2 _ _ hpd hpc hp)
    obtain ⟨S4, x4, f4⟩ := new_step (o := .tup (ks.map V.int)) (SupE.of S3) hq
    generalize upd H3 q (.tup (ks.map V.int)) = H4 at S4 x4 f4 ⊢
    have hp4 := hide_mono x4 _ _ hp3
    refine ⟨_, rfl, _, rfl, p, _, rfl, .inr (SqT.of (hide_same _ _ hp4)), d, c, _, rfl, S4.s, by rw [hlv]; omega, by rw [hlv]; omega, fun at0 H5 a0 a1 S5 x5 => ?_⟩
    rw [hlv] at a1
    obtain ⟨j, rfl, hj⟩ : ∃ j : Nat, at0 = (j : Int) ∧ j < row.length := ⟨at0.toNat, by omega, by omega⟩
    have S5 := S4.next S5 x5
    have hp5 := hide_mono x5 _ _ hp4
    have hq5 := hide_mono x5 _ _ f4
    have x15 := (((x1.trans x2).trans x3).trans x4).trans x5
    have hrs : ∀ z ∈ row, z.natAbs < 10 ^ 13 := hR.small
    have hkss : ∀ z ∈ ks, z.natAbs < 10 ^ 13 := fun z hz => by have := hks.2 z hz; omega
    have prow : ∀ Hz, Parts K Hz (row.map V.int) := fun Hz => .ints hrs
    have pks : ∀ Hz, Parts K Hz (ks.map V.int) := fun Hz => .ints hkss
    clear hp4 f4 hp3 hg0 hg
    -- the nine values
    refine ⟨_, rfl, _, rfl, _, rfl, _, rfl, _, rfl, _, rfl, _, _, rfl, rfl, _, rfl, sl_any S5 (SqT.of hp5) fun p1 H6 S6 x6 f6 => ?_⟩
    have lc1 := cutV_length (row.map V.int) (some (j : Int)) (some ((j : Int) + 1))
    refine cat_any S6 (SqT.of (hide_mono x6 _ _ hp5)) f6 (by omega) fun p2 H7 S7 x7 f7 => ?_
    have x57 := x6.trans x7
    refine ⟨_, rfl, _, rfl, _, rfl, sl_any S7 (SqT.of (hide_mono x57 _ _ hp5)) fun p3 H8 S8 x8 f8 => ?_⟩
    have lc2 := cutV_length (row.map V.int) none (some (j : Int))
    refine ⟨_, rfl, _, rfl, by show 1 ≤ sizeLine; decide, fun t1 ht1 => ?_⟩
    obtain ⟨S9, x9, f9⟩ := new_step (o := .tup [.str "x"]) S8 ht1
    generalize upd H8 t1 (.tup [.str "x"]) = H9 at S9 x9 f9 ⊢
    have x59 := (x57.trans x8).trans x9
    refine cat_any S9 (SqT.of (hide_mono x59 _ _ hq5)) (SqT.of f9) (by rw [List.length_map]; show ks.length + 1 ≤ 1000; omega) fun p4 H10 S10 x10 f10 => ?_
    have x510 := x59.trans x10
    refine ⟨_, rfl, 1, rfl, _, rfl, rfl, p, _, rfl, SqT.of (hide_same _ _ (hide_mono x510 _ _ hp5)), fun p5 hp5' => ?_⟩
    obtain ⟨S11, x11, f11⟩ := new_step (o := .tup (row.map V.int).reverse) S10 hp5'
    generalize upd H10 p5 (.tup (row.map V.int).reverse) = H11 at S11 x11 f11 ⊢
    refine ⟨_, rfl, by show 1 ≤ sizeLine; decide, fun t2 ht2 => ?_⟩
    obtain ⟨S12, x12, f12⟩ := new_step (o := .tup [.non]) S11 ht2
    generalize upd H11 t2 (.tup [.non]) = H12 at S12 x12 f12 ⊢
    have x512 := (x510.trans x11).trans x12
    refine cat_any S12 (SqT.of (hide_mono x512 _ _ hp5)) (SqT.of f12) (by rw [hlv]; show row.length + 1 ≤ 1000; omega) fun p6 H13 S13 x13 f13 => ?_
    refine ⟨Nat.zero_le _, fun t3 ht3 => ?_⟩
    obtain ⟨S14, x14, f14⟩ := new_step (o := .lst []) S13 ht3
    generalize upd H13 t3 (.lst []) = H14 at S14 x14 f14 ⊢
    refine ⟨by show 1 ≤ sizeLine; decide, fun t4 ht4 => ?_⟩
    obtain ⟨S15, x15', f15⟩ := new_step (o := .tup [.ref t3]) S14 ht4
    generalize upd H14 t4 (.tup [.ref t3]) = H15 at S15 x15' f15 ⊢
    have x515 := ((x512.trans x13).trans x14).trans x15'
    refine ⟨_, rfl, cat_any S15 (SqT.of f15) (SqT.of (hide_mono x515 _ _ hp5)) (by rw [hlv]; show 1 + row.length ≤ 1000; omega) fun p7 H16 S16 x16 f16 => ?_⟩
    refine ⟨_, rfl, by show 1 ≤ sizeLine; decide, fun p8 hp8 => ?_⟩
    obtain ⟨S17, x17, f17⟩ := new_step (o := .tup [.ref p]) S16 hp8
    generalize upd H16 p8 (.tup [.ref p]) = H17 at S17 x17 f17 ⊢
    refine ⟨by show 9 ≤ sizeLine; decide, fun lv hlv0 => ?_⟩
    obtain ⟨S18, x18, f18⟩ := new_step (o := .lst [.ref p, .ref p2, .ref p3, .ref q, .ref p4, .ref p5, .ref p6, .ref p7, .ref p8]) S17 hlv0
    generalize upd H17 lv (.lst [.ref p, .ref p2, .ref p3, .ref q, .ref p4, .ref p5, .ref p6, .ref p7, .ref p8]) = H18 at S18 x18 f18 ⊢
    have x518 := ((x515.trans x16).trans x17).trans x18
    have hp18 := hide_mono x518 _ _ hp5
    have hq18 := hide_mono x518 _ _ hq5
    have fr : FineQ (.tuple (row.map PyData.int)) 1 1000 := (fine_row (by omega) hrs).q
    have fk : FineQ (.tuple (ks.map PyData.int)) 1 1000 := (fine_row (by omega) hkss).q
    have hl30 : row.length ≤ 24 := hl2
    have af : AllFine K (hideX H18 d c d) [.ref p, .ref p2, .ref p3, .ref q, .ref p4, .ref p5, .ref p6, .ref p7, .ref p8] := by
      have lone : (cutV (row.map V.int) (some (j : Int)) (some ((j : Int) + 1))).length ≤ 1 := by
        unfold cutV
        rw [List.length_take, show (j : Int) + 1 = ((j + 1 : Nat) : Int) by omega, HT.sIx_nat, HT.sIx_nat]
        omega
      obtain ⟨u2, v2, w2⟩ := Parts.tup ((prow _).app (prow _).cut) (sameT (hide_mono (((((((((((x8.trans x9).trans x10).trans x11).trans x12).trans x13).trans x14).trans x15').trans x16).trans x17).trans x18))) f7) (by rw [List.length_append]; omega)
      obtain ⟨u3, v3, w3⟩ := Parts.tup (prow _).cut (sameT (hide_mono ((((((((((x9.trans x10).trans x11).trans x12).trans x13).trans x14).trans x15').trans x16).trans x17).trans x18))) f8) (by omega)
      obtain ⟨u4, v4, w4⟩ := Parts.tup ((pks _).app (.cons ⟨_, .str _, ⟨rfl, by decide, by decide +kernel⟩⟩ .nil)) (sameT (hide_mono ((((((((x11.trans x12).trans x13).trans x14).trans x15').trans x16).trans x17).trans x18))) f10) (by rw [List.length_append, List.length_map]; show ks.length + 1 ≤ 30; omega)
      obtain ⟨u5, v5, w5⟩ := Parts.tup (xs := (row.map V.int).reverse) (fun v hv => prow _ v (List.mem_reverse.mp hv)) (SqT.of (hide_mono (((((((x12.trans x13).trans x14).trans x15').trans x16).trans x17).trans x18)) _ _ f11)) (by rw [List.length_reverse]; omega)
      obtain ⟨u6, v6, w6⟩ := Parts.tup ((prow _).app (.cons ⟨_, .non, FineD.none.q.mono (by decide) (by decide)⟩ .nil)) (sameT (hide_mono (((((x14.trans x15').trans x16).trans x17).trans x18))) f13) (by rw [List.length_append]; show _ + 1 ≤ 30; omega)
      obtain ⟨u7, v7, w7⟩ := Parts.tup (Parts.app (.cons ⟨.list [], .lst (SqL.of (hide_mono ((((x15'.trans x16).trans x17).trans x18)) _ _ f14)) .nil, ⟨rfl, by decide, by decide +kernel⟩⟩ .nil) (prow _)) (sameT (hide_mono (x17.trans x18)) f16) (by rw [List.length_append]; show 1 + _ ≤ 30; omega)
      have w8 : FineQ (.tuple [.tuple (row.map PyData.int)]) 3 10000 := (FineQ.tup (ds := [.tuple (row.map PyData.int)]) (dep := 1) (B := 1000) fun y hy => by rw [List.mem_singleton] at hy; subst hy; exact fr).mono (by decide) (by show 1 * (1000 + 2) + 3 ≤ 10000; decide)
      exact .cons (.tup (SqT.of hp18) (dq_ints row)) (fr.mono (by decide) (by decide)) (.cons v2 w2 (.cons v3 w3 (.cons (.tup (SqT.of hq18) (dq_ints ks)) (fk.mono (by decide) (by decide)) (.cons v4 w4 (.cons v5 w5 (.cons v6 w6 (.cons v7 w7 (.cons (.tup (SqT.of (hide_mono x18 _ _ f17)) (.cons (.tup (SqT.of hp18) (dq_ints row)) .nil)) w8 .nil))))))))
    have x118 := x15.trans x518
    have llv : ([.ref p, .ref p2, .ref p3, .ref q, .ref p4, .ref p5, .ref p6, .ref p7, .ref p8] : List V).length = 9 := rfl
    generalize ([.ref p, .ref p2, .ref p3, .ref q, .ref p4, .ref p5, .ref p6, .ref p7, .ref p8] : List V) = vals at f18 af llv
    clear f6 f7 f8 f9 f10 f11 f12 f13 f14 f15 f16 f17
    -- the bent ones
    refine ⟨_, rfl, 7, rfl, by decide, by decide, fun D hD => ?_⟩
    have hDd : D ≠ d := fun z => S18.s.hasD (z ▸ hD)
    have hDc : D ≠ c := fun z => S18.s.hasC (z ▸ hD)
    refine lc_range (lo := 0) (n := 7) (fun i Hx => ∃ ws : List V, ws.length = i ∧ Sup Hx d c ∧ SameX H18 Hx d c ∧ Hx D = some (.lst ws) ∧ AllFine K (hideX Hx d c D) ws)
      ⟨[], rfl, S18.s.same (same_new hD), .of d c (same_new hD), upd_same, .nil⟩ ?_ ?_
    · rintro i Hx hi ⟨ws, hw, Sx, xx, hDx, aw⟩
      have hpD : p ≠ D := fun z => by have := hide_same _ _ hp18; rw [z, hD] at this; cases this
      have hpx : hideX Hx d c D p = some (.tup (row.map V.int)) := by
        rw [hide_at hpd hpc hpD]; exact xx _ _ hpd hpc (hide_same _ _ hp18)
      refine ⟨rfl, _, rfl, _, rfl, d, c, D, p, row, rfl, ⟨Sx, by rw [hDx]; exact nofun⟩, hpx, hR, hl2, fun v dd H' hv hf S' x' => ?_⟩
      have hD' := x' _ _ hDd hDc hDx
      refine ⟨ws, hD', small1000 (by omega), ws ++ [v], by rw [List.length_append, hw]; rfl, S'.s.upd hDd hDc, fun b o h1 h2 e => ?_, upd_same, ?_⟩
      · rw [upd_ne fun z => by rw [z, hD] at e; cases e]
        exact x' b o h1 h2 (xx b o h1 h2 e)
      · rw [hide_upd]
        exact (aw.same (hide_mono x')).app (.cons hv hf .nil)
    · rintro Hx ⟨ws, hw, Sx, xx, hDx, aw⟩
      have f18x := hide_same _ _ (hide_mono xx _ _ f18)
      have Sx := S18.next Sx xx
      refine ⟨lv, D, _, _, rfl, rfl, f18x, hDx, by rw [llv, hw]; decide, fun l1 hl1' => ?_⟩
      obtain ⟨S19, x19, f19⟩ := new_step (o := .lst (vals ++ ws)) Sx hl1'
      have s19 : Same Hx (upd Hx l1 (.lst (vals ++ ws))) := same_new hl1'
      generalize upd Hx l1 (.lst (vals ++ ws)) = H19 at S19 x19 f19 s19 ⊢
      have afx : AllFine K (hideX H19 d c d) (vals ++ ws) := (af.same (hide_mono (xx.trans x19))).app ((aw.same hide_more).same (hide_mono x19))
      have hp19 := hide_mono (xx.trans x19) _ _ hp18
      obtain ⟨r0, rest, hrow⟩ : ∃ r0 rest, row = r0 :: rest := List.exists_cons_of_ne_nil (fun z => by rw [z] at hl1; simp at hl1)
      have hr0 : r0 ∈ row := by rw [hrow]; exact List.mem_cons_self
      have hat0 : atI (row.map V.int) 0 = some (V.int r0) := by rw [hrow]; exact atI_nat (j := 0) rfl
      have hk0 := hR.key r0 hr0
      have hlog : r0.natAbs.log2 < 1920 := by have := (FineD.int (hR.small r0 hr0)).sh; simpa [PyData.showable] using this
      refine ⟨_, rfl, d, c, d, rfl, S19, fun w1 dd1 H20 hdd1 hw1 S20 x20 => fun q1 hq1 => ?_⟩
      have hp20 := hide_same _ _ (hide_mono x20 _ _ hp19)
      refine ⟨_, rfl, p, _, _, _, rfl, rfl, SqT.of (same_new hq1 _ _ hp20), hat0, r0, rfl, hlog, upd_same, [(.inr (Str.ofString (toString r0)), .int 1)], rfl, by show 1 ≤ 15; decide, ?_⟩
      show tNil _ (upd (upd H20 q1 (.dK [])) q1 (.dK [(.inr (Str.ofString (toString r0)), .int 1)])) _
      rw [upd_upd]
      obtain ⟨S21, x21, f21⟩ := new_step (o := .dK [(.inr (Str.ofString (toString r0)), .int 1)]) S20 hq1
      generalize upd H20 q1 (.dK [(.inr (Str.ofString (toString r0)), .int 1)]) = H21 at S21 x21 f21 ⊢
      refine ⟨by show 2 ≤ sizeLine; decide, fun l2 hl2' => ?_⟩
      obtain ⟨S22, x22, f22⟩ := new_step (o := .lst [w1, .ref q1]) S21 hl2'
      generalize upd H21 l2 (.lst [w1, .ref q1]) = H22 at S22 x22 f22 ⊢
      have x1922 := (x20.trans x21).trans x22
      have hsz : (vals ++ ws).length = 16 := by rw [List.length_append, llv, hw]
      refine ⟨l1, l2, _, _, rfl, rfl, hide_same _ _ (hide_mono x1922 _ _ f19), hide_same _ _ f22, by rw [hsz]; show 16 + 2 ≤ sizeLine; decide, fun l3 hl3 => ?_⟩
      obtain ⟨S23, x23, f23⟩ := new_step (o := .lst ((vals ++ ws) ++ [w1, .ref q1])) S22 hl3
      generalize upd H22 l3 (.lst ((vals ++ ws) ++ [w1, .ref q1])) = H23 at S23 x23 f23 ⊢
      refine k l3 _ H23 (hide_same _ _ f23) (by rw [List.length_append, hsz]; show 16 + 2 ≤ 100; decide) ?_ S23.s ((((x118.trans xx).trans x19).trans x1922).trans x23)
      refine AllFine.same hide_same ((afx.same (hide_mono (x1922.trans x23))).app (.cons (hw1.mono ((x21.trans x22).trans x23)) ((odd_fine dd1 hdd1).mono (by decide) (by decide)) (.cons (.dct (kvs := [(Str.ofString (toString r0), 1)]) (hide_mono (x22.trans x23) _ _ f21)) ((fine_dict1 (fine_num hk0.1 (by omega))).mono (by decide) (by decide)) .nil)))
end
end LW

namespace LW
open PySem L2 KX
abbrev sLaw : Stmt := top 20
section
variable {P : Program} {w : World} {K : PySem.W.Frag} {mg : Str → Option Value} {base : Heap}
abbrev nLaw : List Str := ["_law_script", "_law_supply_here", "_law_turn", "_law_value", "_law_shown", "_law_due", "_law_some"]
theorem scLaw : FnScope nLaw ["_law_script"] (defScope sLaw) := ⟨rfl, rfl, rfl, by decide +kernel, rfl, by decide +kernel, by decide +kernel⟩
def spLaw (K : PySem.W.Frag) : Sp := fun vs H Q _ => ∃ (a : Addr) (ns : List Int), vs = [.ref a] ∧ SqL K H a (ns.map V.int) ∧ ns.length ≤ 63 ∧ ∀ H', Q (.bl true) H'
theorem ok_law {f fU fV fE fX fW fT fD fI fL : Addr} {fd fdU fdV fdE fdX fdW fdT fdD fdI fdL : FuncData} (F : Fun K "law" "law" sLaw f fd)
    (GU : FnOk P w K mg base CX0 1 fU fdU ["_law_script"] (spSupply K)) (mU : mg "_law_supply" = some (.ref fU)) (kU : PySem.W.keepIn K (.ref fU) = true) (bU : Binds K fdU ["_law_script"] [])
    (GV : FnOk P w K mg base CX0 5 fV fdV ["_law_supply_here"] (spVals K)) (mV : mg "_law_values" = some (.ref fV)) (kV : PySem.W.keepIn K (.ref fV) = true) (bV : Binds K fdV ["_law_supply_here"] [])
    (GE : FnOk P w K mg base CX0 2 fE fdE ["_law_value"] (spErr K)) (mE : mg "_law_error" = some (.ref fE)) (kE : PySem.W.keepIn K (.ref fE) = true) (bE : Binds K fdE ["_law_value"] [])
    (GX : FnOk P w K mg base CX0 4 fX fdX ["value"] (spErr K)) (mX : mg "row_error" = some (.ref fX)) (kX : PySem.W.keepIn K (.ref fX) = true) (bX : Binds K fdX ["value"] [])
    (GW : FnOk P w K mg base CX0 5 fW fdW ["value"] (spIsRow K)) (mW : mg "is_row" = some (.ref fW)) (kW : PySem.W.keepIn K (.ref fW) = true) (bW : Binds K fdW ["value"] [])
    (GT : FnOk P w K mg base CX0 1 fT fdT ["_law_supply_here", "_law_many"] spTake) (mT : mg "_law_take" = some (.ref fT)) (kT : PySem.W.keepIn K (.ref fT) = true) (bT : Binds K fdT ["_law_supply_here", "_law_many"] [])
    (GD : FnOk P w K mg base CX0 3 fD fdD ["_law_supply_here"] (spOdd K)) (mD : mg "_law_odd" = some (.ref fD)) (kD : PySem.W.keepIn K (.ref fD) = true) (bD : Binds K fdD ["_law_supply_here"] [])
    (GI : FnOk P w K mg base CX0 3 fI fdI ["value"] (spIsKey K)) (mI : mg "is_key" = some (.ref fI)) (kI : PySem.W.keepIn K (.ref fI) = true) (bI : Binds K fdI ["value"] [])
    (GL : FnOk P w K mg base CX0 1 fL fdL ["_law_value"] (spIsKey K)) (mL : mg "_law_is_key" = some (.ref fL)) (kL : PySem.W.keepIn K (.ref fL) = true) (bL : Binds K fdL ["_law_value"] [])
    (mran : mg "range" = none) (mrep : mg "repr" = none) : FnOkG P w K mg base CX0 6 f fd ["_law_script"] (spLaw K) := by
  refine Fun.okG F scLaw (fun vs H Q E h => ?_) (fun cdv A outer s H vs Q E hgd hr h => ?_)
  · obtain ⟨a, ns, rfl, _⟩ := h
    rfl
  · obtain ⟨a, ns, rfl, hS, hl, k⟩ := h
    have hr1 : Room 1 _ := hr.mono (by decide)
    have hr2 : Room 2 _ := hr.mono (by decide)
    have hr3 : Room 3 _ := hr.mono (by decide)
    have hr4 : Room 4 _ := hr.mono (by decide)
    have hu := hr.units
    refine ⟨_, pss_cons (ps_set (i := 1) scLaw.nd rfl (.inl rfl) (pe_call GU hr1 (by rfl) mU kU bU .nil pass0 (pa_cons (pv 0) pa_nil)))
      (pss_cons (ps_for PassesOwn.never rfl (pi_range1 (by rfl) mran (pa_cons pe_int pa_nil)) (pg_name (i := 2) scLaw.nd rfl (.inl rfl))
        (pss_cons (ps_for PassesOwn.never rfl (pi_list (pe_call GV hr (by rfl) mV kV bV .nil pass0 (pa_cons (pv 1) pa_nil))) (pg_name (i := 3) scLaw.nd rfl (.inl rfl))
          (pss_cons (ps_par (i := 4) (j := 5) rfl scLaw.nd rfl rfl (by decide) rfl rfl (pa_cons (pe_callB (cr_reprQ hgd hu) (by rfl) mrep (by decide +kernel) (pa_cons (pv 3) pa_nil)) (pa_cons (pe_call GE hr2 (by rfl) mE kE bE .nil pass0 (pa_cons (pv 3) pa_nil)) pa_nil)) (by rfl))
          (pss_one (ps_if (PW.pt (pw_or (pt_cmpR op_ne (pe_callB (cr_reprQ hgd hu) (by rfl) mrep (by decide +kernel) (pa_cons (pe_lst (pa_cons (pe_call GX hr4 (by rfl) mX kX bX .nil pass0 (pa_cons (pv 3) pa_nil)) (pa_cons (pe_call GW hr (by rfl) mW kW bW .nil pass0 (pa_cons (pv 3) pa_nil)) pa_nil))) pa_nil))
              (pe_callB (cr_reprQ hgd hu) (by rfl) mrep (by decide +kernel) (pa_cons (pe_lst (pa_cons (pv 5) (pa_cons (pe_cmpR op_isN (pv 5) pe_non (by rfl)) pa_nil))) pa_nil)) (nomark _)) (pw_or1 (pt_cmpR op_ne (pe_callB (cr_reprQ hgd hu) (by rfl) mrep (by decide +kernel) (pa_cons (pv 3) pa_nil)) (pv 4) (nomark _))))) (pss_one (ps_ret pe_bl)) pss_nil))))
        (pss_cons (ps_set (i := 6) scLaw.nd rfl (.inl rfl) (pe_lst (pa_cons pe_int (pa_cons (pe_op op_pow pe_int pe_int) (pa_cons (pe_op op_add (pe_op op_pow pe_int pe_int) pe_int) (pa_cons (pe_un un_neg pe_int) (pa_cons (pe_call GT hr1 (by rfl) mT kT bT .nil pass0 (pa_cons (pv 1) (pa_cons (pe_op op_pow pe_int pe_int) pa_nil)))
            (pa_cons pe_bl (pa_cons pe_bl (pa_cons pe_non (pa_cons pe_str (pa_cons (pe_tup (pa_cons pe_int pa_nil)) (pa_cons (pe_lst pa_nil) (pa_cons pe_dnewK pa_nil))))))))))))))
        (pss_one (ps_for PassesOwn.never rfl (pi_list (pe_op op_cat (pv 6) (pe_lst (pa_cons (pe_call GD hr3 (by rfl) mD kD bD .nil pass0 (pa_cons (pv 1) pa_nil)) (pa_cons (pe_op op_sub pe_int (pe_call GT hr1 (by rfl) mT kT bT .nil pass0 (pa_cons (pv 1) (pa_cons pe_int pa_nil)))) pa_nil))))) (pg_name (i := 3) scLaw.nd rfl (.inl rfl))
          (pss_one (ps_if (pt_cmpR op_ne (pe_callB (cr_reprQ hgd hu) (by rfl) mrep (by decide +kernel) (pa_cons (pe_call GI hr3 (by rfl) mI kI bI .nil pass0 (pa_cons (pv 3) pa_nil)) pa_nil)) (pe_callB (cr_reprQ hgd hu) (by rfl) mrep (by decide +kernel) (pa_cons (pe_call GL hr1 (by rfl) mL kL bL .nil pass0 (pa_cons (pv 3) pa_nil)) pa_nil)) (nomark _)) (pss_one (ps_ret pe_bl)) pss_nil)))))))
      (pss_one (ps_ret pe_bl))), ?_⟩
    refine ⟨_, rfl, a, ns, rfl, hS, hl, fun d c H1 hd0 hc0 s1 S1 => ?_⟩
    refine ⟨4, rfl, by decide, by decide, for_range (lo := 0) (n := 4) (fun i σ Hx => ∃ (v2 v3 v4 v5 v6 : Option V), σ = [some (.ref a), some (.ref d), v2, v3, v4, v5, v6] ∧ Sup Hx d c) ⟨none, none, none, none, none, rfl, S1⟩ ?_ ?_⟩
    · rintro i σ Hx hi ⟨v2, v3, v4, v5, v6, rfl, Sx⟩
      refine ⟨_, rfl, d, c, rfl, Sx, fun p xs H2 hp hlx af S2 x2 => ?_⟩
      refine ⟨p, rfl, ⟨_, SqL.of hp⟩, for_list (K := K) (a := p) (xs := xs) (fun j σ Hy => ∃ v3 v4 v5 : Option V, σ = [some (.ref a), some (.ref d), some (.int (0 + (i : Int))), v3, v4, v5, v6] ∧ Same H2 Hy) ⟨v3, v4, v5, rfl, Same.refl _⟩ (fun j σ Hy _ ⟨_, _, _, _, sy⟩ => SqL.of (sy _ _ hp)) ?_ ?_⟩
      · rintro j y σ Hy hj ⟨v3, v4, v5, rfl, sy⟩
        obtain ⟨dd, hdq, hf⟩ := af y (List.mem_of_getElem? hj)
        have hdy := hdq.same sy
        have fe := (errD_shape dd).fine
        have fl : FineQ (.list [errD dd, .bool (isNonD (errD dd))]) 2 300 := (FineQ.lst (ds := [errD dd, .bool (isNonD (errD dd))]) (dep := 1) (B := 100) fun z hz => by
          rcases List.mem_cons.mp hz with e | hz
          · subst e; exact fe
          · rw [List.mem_singleton] at hz; subst hz; exact (FineD.bool _).q.mono (by decide) (by decide)).mono (by decide) (by show 2 * (100 + 2) + 3 ≤ 300; decide)
        refine ⟨_, rfl, y, dd, rfl, hdy, hf.sh, Nat.le_trans hf.dp (by decide), Nat.le_trans hf.sz (by decide), ?_⟩
        refine ⟨_, rfl, y, dd, rfl, hdy, fun r H3 s3 hr3' => ⟨_, _, rfl, ?_⟩⟩
        refine ⟨_, rfl, y, dd, rfl, hdy.same s3, fun r2 H4 s4 hr4' => ?_⟩
        refine ⟨_, rfl, y, dd, rfl, (hdy.same s3).same s4, fun H5 s5 => ⟨by show 2 ≤ sizeLine; decide, fun l1 hl1 => ?_⟩⟩
        have s6 := s5.trans (same_new (o := .lst [r2, .bl (isNonD (errD dd))]) hl1)
        refine ⟨_, .list [errD dd, .bool (isNonD (errD dd))], rfl, .lst (SqL.of upd_same) (.cons (hr4'.same s6) (.cons (.bl _) .nil)), fl.sh, Nat.le_trans fl.dp (by decide), Nat.le_trans fl.sz (by decide), ?_⟩
        have s36 := s4.trans s6
        generalize upd H5 l1 (.lst [r2, .bl (isNonD (errD dd))]) = H6 at s36
        refine ⟨_, rfl, _, rfl, rfl, by show 2 ≤ sizeLine; decide, fun l2 hl2 => ?_⟩
        rw [(errD_shape dd).isNon hr3']
        have s37 := s36.trans (same_new (o := .lst [r, .bl (isNonD (errD dd))]) hl2)
        refine ⟨_, .list [errD dd, .bool (isNonD (errD dd))], rfl, .lst (SqL.of upd_same) (.cons (hr3'.same s37) (.cons (.bl _) .nil)), fl.sh, Nat.le_trans fl.dp (by decide), Nat.le_trans fl.sz (by decide), rfl, _, rfl, ?_⟩
        refine iteNS rfl ?_
        generalize upd H6 l2 (.lst [r, .bl (isNonD (errD dd))]) = H7 at s37
        have s7 := s3.trans s37
        refine ⟨_, rfl, y, dd, rfl, hdy.same s7, hf.sh, Nat.le_trans hf.dp (by decide), Nat.le_trans hf.sz (by decide), _, rfl, rfl, _, rfl, ?_⟩
        exact iteNS rfl ⟨_, _, _, rfl, sy.trans s7⟩
      · rintro σ Hy ⟨v3, v4, v5, rfl, sy⟩
        have S3 := S2.same sy
        refine ⟨_, _, rfl, rfl, ⟨by decide, by decide, by decide⟩, _, _, rfl, rfl, ⟨by decide, by decide, by decide⟩, _, _, rfl, rfl, 1, rfl, _, rfl, _, _, rfl, rfl, ⟨by decide, by decide, by decide⟩, d, c, _, rfl, S3, by decide, by decide, fun r H4 r0 r1 S4 x4 => ?_⟩
        have S4 := SupE.of S4
        refine ⟨by show 1 ≤ sizeLine; decide, fun q1 hq1 => ?_⟩
        obtain ⟨S5, x5, f5⟩ := new_step (o := .tup [.int 7]) S4 hq1
        generalize upd H4 q1 (.tup [.int 7]) = H5 at S5 x5 f5 ⊢
        refine ⟨Nat.zero_le _, fun q2 hq2 => ?_⟩
        obtain ⟨S6, x6, f6⟩ := new_step (o := .lst []) S5 hq2
        generalize upd H5 q2 (.lst []) = H6 at S6 x6 f6 ⊢
        refine fun q3 hq3 => ?_
        obtain ⟨S7, x7, f7⟩ := new_step (o := .dK []) S6 hq3
        generalize upd H6 q3 (.dK []) = H7 at S7 x7 f7 ⊢
        refine ⟨by show 12 ≤ sizeLine; decide, fun q4 hq4 => ?_⟩
        show tSeq _ _ _ _ (upd H7 q4 (.lst [.int 0, .int 1000000000000, .int 1000000000001, .int (-1), .int r, .bl true, .bl false, .non, .str "7", .ref q1, .ref q2, .ref q3]))
        obtain ⟨S8, x8, f8⟩ := new_step (o := .lst [.int 0, .int 1000000000000, .int 1000000000001, .int (-1), .int r, .bl true, .bl false, .non, .str "7", .ref q1, .ref q2, .ref q3]) S7 hq4
        generalize hso : ([.int 0, .int 1000000000000, .int 1000000000001, .int (-1), .int r, .bl true, .bl false, .non, .str "7", .ref q1, .ref q2, .ref q3] : List V) = so at S8 x8 f8 ⊢
        generalize upd H7 q4 (.lst so) = H8 at S8 x8 f8 ⊢
        have lso : so.length = 12 := by rw [← hso]; rfl
        have data : ∀ v ∈ so, ∃ dd, Dq K (hideX H8 d c d) v dd := by
          have : ∃ ds, DqAll K (hideX H8 d c d) so ds := by
            rw [← hso]
            exact ⟨_, .cons (.int _) (.cons (.int _) (.cons (.int _) (.cons (.int _) (.cons (.int _) (.cons (.bl _) (.cons (.bl _) (.cons .non (.cons (.str _) (.cons (.tup (SqT.of (hide_mono ((x6.trans x7).trans x8) _ _ f5)) (.cons (.int 7) .nil)) (.cons (.lst (SqL.of (hide_mono (x7.trans x8) _ _ f6)) .nil) (.cons (.dct (kvs := []) (hide_mono x8 _ _ f7)) .nil)))))))))))⟩
          obtain ⟨ds, hds⟩ := this
          intro v hv
          obtain ⟨dd, _, h⟩ := dqAll_mem hds v hv
          exact ⟨dd, h⟩
        clear hso
        refine ⟨_, rfl, _, rfl, d, c, d, rfl, S8, fun w1 dd1 H9 hdd1 hw1 S9 x9 => ?_⟩
        refine ⟨_, rfl, d, c, 9, rfl, S9.s, by decide, by decide, fun r2 H10 _ _ S10 x10 => ⟨_, _, rfl, rfl, by show 2 ≤ sizeLine; decide, fun q5 hq5 => ?_⟩⟩
        have S10 := S9.next S10 x10
        obtain ⟨S11, x11, f11⟩ := new_step (o := .lst [w1, .int (0 - r2)]) S10 hq5
        generalize upd H10 q5 (.lst [w1, .int (0 - r2)]) = H11 at S11 x11 f11 ⊢
        have x811 := (x9.trans x10).trans x11
        refine ⟨q4, q5, _, _, rfl, rfl, hide_same _ _ (hide_mono x811 _ _ f8), hide_same _ _ f11, by rw [lso]; show 12 + 2 ≤ sizeLine; decide, fun q6 hq6 => ?_⟩
        obtain ⟨S12, x12, f12⟩ := new_step (o := .lst (so ++ [w1, .int (0 - r2)])) S11 hq6
        generalize upd H11 q6 (.lst (so ++ [w1, .int (0 - r2)])) = H12 at S12 x12 f12 ⊢
        have dall : ∀ v ∈ so ++ [w1, .int (0 - r2)], ∃ dd, Dq K H12 v dd := by
          intro v hv
          rcases List.mem_append.mp hv with h | h
          · obtain ⟨dd, q⟩ := data v h
            exact ⟨dd, (q.same (hide_mono (x811.trans x12))).same hide_same⟩
          · rcases List.mem_cons.mp h with e | h
            · subst e; exact ⟨dd1, (hw1.mono ((x10.trans x11).trans x12)).dq⟩
            · rw [List.mem_singleton] at h; subst h; exact ⟨_, .int _⟩
        have h12 := hide_same _ _ f12
        refine ⟨q6, rfl, ⟨_, SqL.of h12⟩, for_list (K := K) (a := q6) (xs := so ++ [w1, .int (0 - r2)]) (fun j σ Hz => ∃ v3 v4 v5 v6 : Option V, σ = [some (.ref a), some (.ref d), some (.int (0 + (i : Int))), v3, v4, v5, v6] ∧ Hz = H12) ⟨_, _, _, _, rfl, rfl⟩ (fun j σ Hz _ ⟨_, _, _, _, _, e⟩ => e ▸ SqL.of h12) ?_ ?_⟩
        · rintro j y σ Hz hj ⟨v3, v4, v5, v6, rfl, rfl⟩
          obtain ⟨dd, hdq⟩ := dall y (List.mem_of_getElem? hj)
          have fb : FineQ (.bool (keyD dd)) 0 5 := (FineD.bool _).q
          refine ⟨_, rfl, y, dd, rfl, hdq, ?_⟩
          refine ⟨_, .bool (keyD dd), rfl, .bl _, fb.sh, Nat.le_trans fb.dp (by decide), Nat.le_trans fb.sz (by decide), ?_⟩
          refine ⟨_, rfl, y, dd, rfl, hdq, ?_⟩
          refine ⟨_, .bool (keyD dd), rfl, .bl _, fb.sh, Nat.le_trans fb.dp (by decide), Nat.le_trans fb.sz (by decide), rfl, _, rfl, ?_⟩
          exact iteNS rfl ⟨_, _, _, _, rfl, rfl⟩
        · rintro σ Hz ⟨v3, v4, v5, v6, rfl, rfl⟩
          exact ⟨_, _, _, _, _, rfl, S12.s⟩
    · rintro σ Hx ⟨v2, v3, v4, v5, v6, rfl, Sx⟩
      exact k Hx
end
end LW

namespace LW
open PySem L2 KX
section
theorem all_mk {l : PySem.W.OpenLaw} {w : World} {K : PySem.W.Frag} {h : Heap} {mg : Str → Option Value} {fa fdP fdB fdY fdA fdX fdU fdT fdO fdS fdK fdR fdD fdN fdZ fdE fdV fW : Addr} (X : K.In h) (G : h.Ns mainGlobals mg) (hfa : mg "law" = some (.ref fa))
    {oddP andP : Option Addr} {sldP : Array (Option Value)} {ocdP kVdP dcdP pmdP cddP ctdP : Value}
    {oddB andB : Option Addr} {sldB : Array (Option Value)} {ocdB kVdB dcdB pmdB cddB ctdB : Value}
    {oddY andY : Option Addr} {sldY : Array (Option Value)} {ocdY kVdY dcdY pmdY cddY ctdY : Value}
    {oddA andA : Option Addr} {sldA : Array (Option Value)} {ocdA kVdA dcdA pmdA cddA ctdA : Value}
    {oddX andX : Option Addr} {sldX : Array (Option Value)} {ocdX kVdX dcdX pmdX cddX ctdX : Value}
    {oddU andU : Option Addr} {sldU : Array (Option Value)} {ocdU kVdU dcdU pmdU cddU ctdU : Value}
    {oddT andT : Option Addr} {sldT : Array (Option Value)} {ocdT kVdT dcdT pmdT cddT ctdT : Value}
    {oddO andO : Option Addr} {sldO : Array (Option Value)} {ocdO kVdO dcdO pmdO cddO ctdO : Value}
    {oddS andS : Option Addr} {sldS : Array (Option Value)} {ocdS kVdS dcdS pmdS cddS ctdS : Value}
    {oddK andK : Option Addr} {sldK : Array (Option Value)} {ocdK kVdK dcdK pmdK cddK ctdK : Value}
    {oddR andR : Option Addr} {sldR : Array (Option Value)} {ocdR kVdR dcdR pmdR cddR ctdR : Value}
    {oddD andD : Option Addr} {sldD : Array (Option Value)} {ocdD kVdD dcdD pmdD cddD ctdD : Value}
    {oddN andN : Option Addr} {sldN : Array (Option Value)} {ocdN kVdN dcdN pmdN cddN ctdN : Value}
    {oddZ andZ : Option Addr} {sldZ : Array (Option Value)} {ocdZ kVdZ dcdZ pmdZ cddZ ctdZ : Value}
    {oddE andE : Option Addr} {sldE : Array (Option Value)} {ocdE kVdE dcdE pmdE cddE ctdE : Value}
    {oddV andV : Option Addr} {sldV : Array (Option Value)} {ocdV kVdV dcdV pmdV cddV ctdV : Value}
    {odW anW : Option Addr} {slW : Array (Option Value)} {ocW kVW dcW pmW cdW ctW : Value}
    (adP : PySem.W.nsIn K mainGlobals "is_plain_integer" = some (some (.ref fdP))) (ldP : K.lookup fdP = some ⟨ocdP, oddP, .func (PySem.W.fnOf "is_plain_integer" "is_plain_integer" (defArgs sPlain) (defBody sPlain) (defScope sPlain) .none kVdP dcdP pmdP andP cddP ctdP), sldP⟩) (cdP : PySem.W.codeIn K cddP "is_plain_integer" = true) (kdP : PySem.W.keepIn K (.ref fdP) = true)
    (adB : PySem.W.nsIn K mainGlobals "is_integer_between" = some (some (.ref fdB))) (ldB : K.lookup fdB = some ⟨ocdB, oddB, .func (PySem.W.fnOf "is_integer_between" "is_integer_between" (defArgs sIsInt) (defBody sIsInt) (defScope sIsInt) .none kVdB dcdB pmdB andB cddB ctdB), sldB⟩) (cdB : PySem.W.codeIn K cddB "is_integer_between" = true) (kdB : PySem.W.keepIn K (.ref fdB) = true)
    (adY : PySem.W.nsIn K mainGlobals "is_key" = some (some (.ref fdY))) (ldY : K.lookup fdY = some ⟨ocdY, oddY, .func (PySem.W.fnOf "is_key" "is_key" (defArgs sIsKey) (defBody sIsKey) (defScope sIsKey) .none kVdY dcdY pmdY andY cddY ctdY), sldY⟩) (cdY : PySem.W.codeIn K cddY "is_key" = true) (kdY : PySem.W.keepIn K (.ref fdY) = true)
    (adA : PySem.W.nsIn K mainGlobals "is_row" = some (some (.ref fdA))) (ldA : K.lookup fdA = some ⟨ocdA, oddA, .func (PySem.W.fnOf "is_row" "is_row" (defArgs sIsRow) (defBody sIsRow) (defScope sIsRow) .none kVdA dcdA pmdA andA cddA ctdA), sldA⟩) (cdA : PySem.W.codeIn K cddA "is_row" = true) (kdA : PySem.W.keepIn K (.ref fdA) = true)
    (adX : PySem.W.nsIn K mainGlobals "row_error" = some (some (.ref fdX))) (ldX : K.lookup fdX = some ⟨ocdX, oddX, .func (PySem.W.fnOf "row_error" "row_error" (defArgs sRowErr) (defBody sRowErr) (defScope sRowErr) .none kVdX dcdX pmdX andX cddX ctdX), sldX⟩) (cdX : PySem.W.codeIn K cddX "row_error" = true) (kdX : PySem.W.keepIn K (.ref fdX) = true)
    (adU : PySem.W.nsIn K mainGlobals "_law_supply" = some (some (.ref fdU))) (ldU : K.lookup fdU = some ⟨ocdU, oddU, .func (PySem.W.fnOf "_law_supply" "_law_supply" (defArgs sSupply) (defBody sSupply) (defScope sSupply) .none kVdU dcdU pmdU andU cddU ctdU), sldU⟩) (cdU : PySem.W.codeIn K cddU "_law_supply" = true) (kdU : PySem.W.keepIn K (.ref fdU) = true)
    (adT : PySem.W.nsIn K mainGlobals "_law_take" = some (some (.ref fdT))) (ldT : K.lookup fdT = some ⟨ocdT, oddT, .func (PySem.W.fnOf "_law_take" "_law_take" (defArgs sTake) (defBody sTake) (defScope sTake) .none kVdT dcdT pmdT andT cddT ctdT), sldT⟩) (cdT : PySem.W.codeIn K cddT "_law_take" = true) (kdT : PySem.W.keepIn K (.ref fdT) = true)
    (adO : PySem.W.nsIn K mainGlobals "_law_one" = some (some (.ref fdO))) (ldO : K.lookup fdO = some ⟨ocdO, oddO, .func (PySem.W.fnOf "_law_one" "_law_one" (defArgs sOne) (defBody sOne) (defScope sOne) .none kVdO dcdO pmdO andO cddO ctdO), sldO⟩) (cdO : PySem.W.codeIn K cddO "_law_one" = true) (kdO : PySem.W.keepIn K (.ref fdO) = true)
    (adS : PySem.W.nsIn K mainGlobals "_law_stirred" = some (some (.ref fdS))) (ldS : K.lookup fdS = some ⟨ocdS, oddS, .func (PySem.W.fnOf "_law_stirred" "_law_stirred" (defArgs sStir) (defBody sStir) (defScope sStir) .none kVdS dcdS pmdS andS cddS ctdS), sldS⟩) (cdS : PySem.W.codeIn K cddS "_law_stirred" = true) (kdS : PySem.W.keepIn K (.ref fdS) = true)
    (adK : PySem.W.nsIn K mainGlobals "_law_keys" = some (some (.ref fdK))) (ldK : K.lookup fdK = some ⟨ocdK, oddK, .func (PySem.W.fnOf "_law_keys" "_law_keys" (defArgs sKeys) (defBody sKeys) (defScope sKeys) .none kVdK dcdK pmdK andK cddK ctdK), sldK⟩) (cdK : PySem.W.codeIn K cddK "_law_keys" = true) (kdK : PySem.W.keepIn K (.ref fdK) = true)
    (adR : PySem.W.nsIn K mainGlobals "_law_row" = some (some (.ref fdR))) (ldR : K.lookup fdR = some ⟨ocdR, oddR, .func (PySem.W.fnOf "_law_row" "_law_row" (defArgs sRow) (defBody sRow) (defScope sRow) .none kVdR dcdR pmdR andR cddR ctdR), sldR⟩) (cdR : PySem.W.codeIn K cddR "_law_row" = true) (kdR : PySem.W.keepIn K (.ref fdR) = true)
    (adD : PySem.W.nsIn K mainGlobals "_law_odd" = some (some (.ref fdD))) (ldD : K.lookup fdD = some ⟨ocdD, oddD, .func (PySem.W.fnOf "_law_odd" "_law_odd" (defArgs sOdd) (defBody sOdd) (defScope sOdd) .none kVdD dcdD pmdD andD cddD ctdD), sldD⟩) (cdD : PySem.W.codeIn K cddD "_law_odd" = true) (kdD : PySem.W.keepIn K (.ref fdD) = true)
    (adN : PySem.W.nsIn K mainGlobals "_law_bent" = some (some (.ref fdN))) (ldN : K.lookup fdN = some ⟨ocdN, oddN, .func (PySem.W.fnOf "_law_bent" "_law_bent" (defArgs sBent) (defBody sBent) (defScope sBent) .none kVdN dcdN pmdN andN cddN ctdN), sldN⟩) (cdN : PySem.W.codeIn K cddN "_law_bent" = true) (kdN : PySem.W.keepIn K (.ref fdN) = true)
    (adZ : PySem.W.nsIn K mainGlobals "_law_is_key" = some (some (.ref fdZ))) (ldZ : K.lookup fdZ = some ⟨ocdZ, oddZ, .func (PySem.W.fnOf "_law_is_key" "_law_is_key" (defArgs sLIsKey) (defBody sLIsKey) (defScope sLIsKey) .none kVdZ dcdZ pmdZ andZ cddZ ctdZ), sldZ⟩) (cdZ : PySem.W.codeIn K cddZ "_law_is_key" = true) (kdZ : PySem.W.keepIn K (.ref fdZ) = true)
    (adE : PySem.W.nsIn K mainGlobals "_law_error" = some (some (.ref fdE))) (ldE : K.lookup fdE = some ⟨ocdE, oddE, .func (PySem.W.fnOf "_law_error" "_law_error" (defArgs sLErr) (defBody sLErr) (defScope sLErr) .none kVdE dcdE pmdE andE cddE ctdE), sldE⟩) (cdE : PySem.W.codeIn K cddE "_law_error" = true) (kdE : PySem.W.keepIn K (.ref fdE) = true)
    (adV : PySem.W.nsIn K mainGlobals "_law_values" = some (some (.ref fdV))) (ldV : K.lookup fdV = some ⟨ocdV, oddV, .func (PySem.W.fnOf "_law_values" "_law_values" (defArgs sVals) (defBody sVals) (defScope sVals) .none kVdV dcdV pmdV andV cddV ctdV), sldV⟩) (cdV : PySem.W.codeIn K cddV "_law_values" = true) (kdV : PySem.W.keepIn K (.ref fdV) = true)
    (aW : PySem.W.nsIn K mainGlobals "law" = some (some (.ref fW))) (lW : K.lookup fW = some ⟨ocW, odW, .func (PySem.W.fnOf "law" "law" (defArgs sLaw) (defBody sLaw) (defScope sLaw) .none kVW dcW pmW anW cdW ctW), slW⟩) (cW : PySem.W.codeIn K cdW "law" = true) (kW : PySem.W.keepIn K (.ref fW) = true)
    (zlen : PySem.W.nsIn K mainGlobals "len" = some none)
    (zabs : PySem.W.nsIn K mainGlobals "abs" = some none)
    (zlis : PySem.W.nsIn K mainGlobals "list" = some none)
    (zran : PySem.W.nsIn K mainGlobals "range" = some none)
    (ztup : PySem.W.nsIn K mainGlobals "tuple" = some none)
    (zrep : PySem.W.nsIn K mainGlobals "repr" = some none)
    (zisi : PySem.W.nsIn K mainGlobals "isinstance" = some none)
    (zint : PySem.W.nsIn K mainGlobals "int" = some none)
    (zboo : PySem.W.nsIn K mainGlobals "bool" = some none)
    (zenu : PySem.W.nsIn K mainGlobals "enumerate" = some none)
    (zstr : PySem.W.nsIn K mainGlobals "str" = some none)
    {tM tP : Tok}
    (aM : PySem.W.nsIn K mainGlobals "MAX_KEY" = some (some (.int 1000000000000 tM)))
    (aP : PySem.W.nsIn K mainGlobals "MAX_PLACES" = some (some (.int 24 tP)))
    : ∃ fd : FuncData, (∀ (s : Shared) (v : Value), BindsTo s fd ⟨[v], []⟩ [("_law_script", v)]) ∧ ∀ base : Heap, K.In base → base.Ns mainGlobals mg → FnOkG l.prog w K mg base CX0 6 fa fd ["_law_script"] (spLaw K) := by
  have e := hfa.symm.trans (PySem.W.mg_of X G aW)
  cases e
  have FdP := fun_mk (st := sPlain) ldP cdP kdP
  have mdP := PySem.W.mg_of X G adP
  have bdP := FdP.binds (ps := ["value"]) fun _ _ _ _ _ _ us hl => match us, hl with | [_], _ => rfl
  have FdB := fun_mk (st := sIsInt) ldB cdB kdB
  have mdB := PySem.W.mg_of X G adB
  have bdB := FdB.binds (ps := ["value", "low", "high"]) fun _ _ _ _ _ _ us hl => match us, hl with | [_, _, _], _ => rfl
  have FdY := fun_mk (st := sIsKey) ldY cdY kdY
  have mdY := PySem.W.mg_of X G adY
  have bdY := FdY.binds (ps := ["value"]) fun _ _ _ _ _ _ us hl => match us, hl with | [_], _ => rfl
  have FdA := fun_mk (st := sIsRow) ldA cdA kdA
  have mdA := PySem.W.mg_of X G adA
  have bdA := FdA.binds (ps := ["value"]) fun _ _ _ _ _ _ us hl => match us, hl with | [_], _ => rfl
  have FdX := fun_mk (st := sRowErr) ldX cdX kdX
  have mdX := PySem.W.mg_of X G adX
  have bdX := FdX.binds (ps := ["value"]) fun _ _ _ _ _ _ us hl => match us, hl with | [_], _ => rfl
  have FdU := fun_mk (st := sSupply) ldU cdU kdU
  have mdU := PySem.W.mg_of X G adU
  have bdU := FdU.binds (ps := ["_law_script"]) fun _ _ _ _ _ _ us hl => match us, hl with | [_], _ => rfl
  have FdT := fun_mk (st := sTake) ldT cdT kdT
  have mdT := PySem.W.mg_of X G adT
  have bdT := FdT.binds (ps := ["_law_supply_here", "_law_many"]) fun _ _ _ _ _ _ us hl => match us, hl with | [_, _], _ => rfl
  have FdO := fun_mk (st := sOne) ldO cdO kdO
  have mdO := PySem.W.mg_of X G adO
  have bdO := FdO.binds (ps := ["_law_supply_here", "_law_items"]) fun _ _ _ _ _ _ us hl => match us, hl with | [_, _], _ => rfl
  have FdS := fun_mk (st := sStir) ldS cdS kdS
  have mdS := PySem.W.mg_of X G adS
  have bdS := FdS.binds (ps := ["_law_supply_here", "_law_items"]) fun _ _ _ _ _ _ us hl => match us, hl with | [_, _], _ => rfl
  have FdK := fun_mk (st := sKeys) ldK cdK kdK
  have mdK := PySem.W.mg_of X G adK
  have bdK := FdK.binds (ps := ["_law_supply_here", "_law_n"]) fun _ _ _ _ _ _ us hl => match us, hl with | [_, _], _ => rfl
  have FdR := fun_mk (st := sRow) ldR cdR kdR
  have mdR := PySem.W.mg_of X G adR
  have bdR := FdR.binds (ps := ["_law_supply_here", "_law_most"]) fun _ _ _ _ _ _ us hl => match us, hl with | [_, _], _ => rfl
  have FdD := fun_mk (st := sOdd) ldD cdD kdD
  have mdD := PySem.W.mg_of X G adD
  have bdD := FdD.binds (ps := ["_law_supply_here"]) fun _ _ _ _ _ _ us hl => match us, hl with | [_], _ => rfl
  have FdN := fun_mk (st := sBent) ldN cdN kdN
  have mdN := PySem.W.mg_of X G adN
  have bdN := FdN.binds (ps := ["_law_supply_here", "_law_value"]) fun _ _ _ _ _ _ us hl => match us, hl with | [_, _], _ => rfl
  have FdZ := fun_mk (st := sLIsKey) ldZ cdZ kdZ
  have mdZ := PySem.W.mg_of X G adZ
  have bdZ := FdZ.binds (ps := ["_law_value"]) fun _ _ _ _ _ _ us hl => match us, hl with | [_], _ => rfl
  have FdE := fun_mk (st := sLErr) ldE cdE kdE
  have mdE := PySem.W.mg_of X G adE
  have bdE := FdE.binds (ps := ["_law_value"]) fun _ _ _ _ _ _ us hl => match us, hl with | [_], _ => rfl
  have FdV := fun_mk (st := sVals) ldV cdV kdV
  have mdV := PySem.W.mg_of X G adV
  have bdV := FdV.binds (ps := ["_law_supply_here"]) fun _ _ _ _ _ _ us hl => match us, hl with | [_], _ => rfl
  have FW := fun_mk (st := sLaw) lW cW kW
  have mW := PySem.W.mg_of X G aW
  have bW := FW.binds (ps := ["_law_script"]) fun _ _ _ _ _ _ us hl => match us, hl with | [_], _ => rfl
  have nlen := PySem.W.mg_none_of X G zlen
  have nabs := PySem.W.mg_none_of X G zabs
  have nlis := PySem.W.mg_none_of X G zlis
  have nran := PySem.W.mg_none_of X G zran
  have ntup := PySem.W.mg_none_of X G ztup
  have nrep := PySem.W.mg_none_of X G zrep
  have nisi := PySem.W.mg_none_of X G zisi
  have nint := PySem.W.mg_none_of X G zint
  have nboo := PySem.W.mg_none_of X G zboo
  have nenu := PySem.W.mg_none_of X G zenu
  have nstr := PySem.W.mg_none_of X G zstr
  refine ⟨PySem.W.fnOf "law" "law" (defArgs sLaw) (defBody sLaw) (defScope sLaw) .none kVW dcW pmW anW cdW ctW, fun s v => .of_eq rfl, fun base _ _ => ?_⟩
  have GT := ok_take (P := l.prog) (w := w) (base := base) FdT nlen
  have GU := ok_supply (P := l.prog) (w := w) (base := base) FdU nlen nabs
  have GS := ok_stir (P := l.prog) (w := w) (base := base) FdS GT mdT kdT bdT nlen nlis
  have GK := ok_keys (P := l.prog) (w := w) (base := base) FdK GT mdT kdT bdT nran
  have GR := ok_row (P := l.prog) (w := w) (base := base) FdR GT mdT kdT bdT GK mdK kdK bdK GS mdS kdS bdS nlen ntup
  have GO := ok_one (P := l.prog) (w := w) (base := base) FdO GT mdT kdT bdT nlen
  have GD := ok_odd (P := l.prog) (w := w) (base := base) FdD GO mdO kdO bdO
  have GP := ok_plain (P := l.prog) (w := w) (base := base) FdP nisi nint nboo
  have GB := ok_isint (P := l.prog) (w := w) (base := base) FdB GP mdP kdP bdP
  have GY := ok_iskey (P := l.prog) (w := w) (base := base) FdY GB mdB kdB bdB (PySem.W.mg_of X G aM)
  have GZ := ok_liskey (P := l.prog) (w := w) (base := base) FdZ nisi nint nboo
  have GX := ok_rowerr (P := l.prog) (w := w) (base := base) FdX GY mdY kdY bdY nisi ntup nlen nenu (PySem.W.mg_of X G aP)
  have GW := ok_isrow (P := l.prog) (w := w) (base := base) FdA GX mdX kdX bdX
  have GE := ok_lerr (P := l.prog) (w := w) (base := base) FdE GZ mdZ kdZ bdZ nisi ntup nlen nenu
  have GN := ok_bent (P := l.prog) (w := w) (base := base) FdN GT mdT kdT bdT GO mdO kdO bdO GD mdD kdD bdD nlen nstr nlis
  have GV := ok_vals (P := l.prog) (w := w) (base := base) FdV GT mdT kdT bdT GK mdK kdK bdK GR mdR kdR bdR GN mdN kdN bdN GD mdD kdD bdD nlen nstr ntup nran
  exact ok_law FW GU mdU kdU bdU GV mdV kdV bdV GE mdE kdE bdE GX mdX kdX bdX GW mdA kdA bdA GT mdT kdT bdT GD mdD kdD bdD GY mdY kdY bdY GZ mdZ kdZ bdZ nran nrep
end
end LW
open PySem PySem.W PyProof.Rows
set_option maxRecDepth 100000 in
set_option maxHeartbeats 0 in
theorem PySem.Challenge.cw_oddrounds_k02_keys_and_rows_holds : PySem.Challenge.rw_oddrounds_k02_keys_and_rows.Holds := by
  w_on; o_law; k_head; (case hw => w_witness2)
  k_fill
  refine KX.walkG (l := PySem.Challenge.rw_oddrounds_k02_keys_and_rows) (n := 63) (k := 6) (x := "_law_script") (sp := LW.spLaw) rfl (by decide) rfl ⟨rfl, by decide, by decide⟩ (fun w h Y => PySem.W.kIn_of Y) ?F (fun _ _ a ns hl _ hS => ⟨a, ns, rfl, hS, hl, fun _ => rfl⟩)
  case F =>
    intro w mg fa h KX G hmg
    refine' LW.all_mk KX G hmg ?adP ?ldP ?cdP ?kdP ?adB ?ldB ?cdB ?kdB ?adY ?ldY ?cdY ?kdY ?adA ?ldA ?cdA ?kdA ?adX ?ldX ?cdX ?kdX ?adU ?ldU ?cdU ?kdU ?adT ?ldT ?cdT ?kdT ?adO ?ldO ?cdO ?kdO ?adS ?ldS ?cdS ?kdS ?adK ?ldK ?cdK ?kdK ?adR ?ldR ?cdR ?kdR ?adD ?ldD ?cdD ?kdD ?adN ?ldN ?cdN ?kdN ?adZ ?ldZ ?cdZ ?kdZ ?adE ?ldE ?cdE ?kdE ?adV ?ldV ?cdV ?kdV ?aW ?lW ?cW ?kW ?zlen ?zabs ?zlis ?zran ?ztup ?zrep ?zisi ?zint ?zboo ?zenu ?zstr ?aM ?aP
    (case adP => k_is); (case ldP => k_is); (case cdP => k_is); (case kdP => k_is); (case adB => k_is); (case ldB => k_is)
    (case cdB => k_is); (case kdB => k_is); (case adY => k_is); (case ldY => k_is); (case cdY => k_is); (case kdY => k_is)
    (case adA => k_is); (case ldA => k_is); (case cdA => k_is); (case kdA => k_is); (case adX => k_is); (case ldX => k_is)
    (case cdX => k_is); (case kdX => k_is); (case adU => k_is); (case ldU => k_is); (case cdU => k_is); (case kdU => k_is)
    (case adT => k_is); (case ldT => k_is); (case cdT => k_is); (case kdT => k_is); (case adO => k_is); (case ldO => k_is)
    (case cdO => k_is); (case kdO => k_is); (case adS => k_is); (case ldS => k_is); (case cdS => k_is); (case kdS => k_is)
    (case adK => k_is); (case ldK => k_is); (case cdK => k_is); (case kdK => k_is); (case adR => k_is); (case ldR => k_is)
    (case cdR => k_is); (case kdR => k_is); (case adD => k_is); (case ldD => k_is); (case cdD => k_is); (case kdD => k_is)
    (case adN => k_is); (case ldN => k_is); (case cdN => k_is); (case kdN => k_is); (case adZ => k_is); (case ldZ => k_is)
    (case cdZ => k_is); (case kdZ => k_is); (case adE => k_is); (case ldE => k_is); (case cdE => k_is); (case kdE => k_is)
    (case adV => k_is); (case ldV => k_is); (case cdV => k_is); (case kdV => k_is); (case aW => k_is); (case lW => k_is)
    (case cW => k_is); (case kW => k_is); (case zlen => k_is); (case zabs => k_is); (case zlis => k_is); (case zran => k_is)
    (case ztup => k_is); (case zrep => k_is); (case zisi => k_is); (case zint => k_is); (case zboo => k_is); (case zenu => k_is)
    (case zstr => k_is)
    (case aM => k_is)
    (case aP => k_is)
#print axioms PySem.Challenge.cw_oddrounds_k02_keys_and_rows_holds

