import PyProof.Rows.All
import Wide.All
import OpenK.AllK
import Wide.FinOn
import HandS.ForMost
import HandS.IsInst
import HandS.ForExc
import HandS.ExcInit
import HandS.ExcField
import HandS.ExcIs
import HandS.FStr
import HandS.Style
import HandS.Sort
import KE.KSortTupG
import PyProof.TupleOfSeq
import HandS.TupAny
import HandS.TupMul
import HandS.TupLe
import HandS.StrMore
import HandS.Walk
import HandS.Deep
import HandS.DictTup
import HandS.DictComp
import HandS.TupLen
import HandS.Conv
import PyProof.DictMoreH
import HandS.Iter
import HandS.Zip
import HandS.CallLocal
import HandS.WrittenGet
import PySem.Challenge.RW_branchedhall_k05_whole_parts_go_in_order
set_option Elab.async false
set_option linter.all false
set_option maxRecDepth 100000
set_option maxHeartbeats 4000000
/-! Rules of my own over the hand layer: texts repeated, repr of data (no repr under way around), calls by keywords alone. -/
namespace Br
open PySem PySem.Spec PyProof.Rows L2

/-- nothing of repr is under way around -/
abbrev Bare (Ar : Around) : Prop := Ar.guards = some []

/-- FnOk, asked only where no repr is under way -/
structure FnG (P : Program) (w : World) (K : PySem.W.Frag) (mg : Str → Option Value) (base : Heap) (CX : CXT) (k : Nat) (f : Addr) (fd : FuncData) (ps : List Str) (sp : Sp) : Prop where
  many : ∀ vs H Q E, sp vs H Q E → vs.length = ps.length
  runs : ∀ (Ar : Around) (out : List Env) (st : Shared) (H : Hp) (as : Args) (us : List Value) (vs : List V) (Q : VK) (E : XK), Bare Ar → Room k Ar → Env0 P w K mg base Ar out st H → BindsTo st fd as (ps.zip us) → Vals vs us → sp vs H Q E →
    codeAny (model P w) Ar (.call (.ref f) as) (CR CX out P w H st Q E) st

section
variable {P : Program} {w : World} {K : PySem.W.Frag} {mg : Str → Option Value} {base : Heap} {CX : CXT} {k j : Nat} {f : Addr} {fd : FuncData} {ps : List Str} {sp : Sp}
theorem FnG.of (F : FnOk P w K mg base CX k f fd ps sp) : FnG P w K mg base CX k f fd ps sp :=
  ⟨F.len, fun Ar out st H as us vs Q E _ hr e0 hb r h => F.run Ar out st H as us vs Q E hr e0 hb r h⟩
theorem FnG.up (F : FnG P w K mg base CX j f fd ps sp) (h : j ≤ k) : FnG P w K mg base CX k f fd ps sp :=
  ⟨F.many, fun Ar out st H as us vs Q E g hr => F.runs Ar out st H as us vs Q E g (hr.mono h)⟩

/-- the rule for a def, as Fun.ok, with what is known of repr -/
theorem okG {x qual : Str} {st : Stmt} {N : List Str} (F : Fun K x qual st f fd) (S : FnScope N ps (defScope st)) (len : ∀ vs H Q E, sp vs H Q E → vs.length = ps.length)
    (body : ∀ (cdv : Value) (Ar : Around) (out : List Env) (s0 : Shared) (H : Hp) (vs : List V) (Q : VK) (E : XK), Bare Ar → Room k (Ar.deeper (envOfC qual (defScope st) s0.heap.objs.size f cdv)) → sp vs H Q E →
      ∃ t, PSs (cxOf CX0 P w K mg base N qual (defScope st) f cdv Ar out s0 H E).nox (defBody st) t ∧ t { nx := fun _ H' => Q .non H', rt := Q } (start N vs) H) : FnG P w K mg base CX0 (k + 1) f fd ps sp := by
  obtain ⟨oc, od, kV, dc, pm, an, cdv, ct, osl, rfl, lk, hcd⟩ := F.ex
  constructor
  · exact len
  intro Ar out s0 H as us vs Q E hG hr e0 hb r hsp
  have hl := len _ _ _ _ hsp
  have inK : K.In s0.heap := e0.mod.kin.keeps fun b o q => (e0.bs b o q).1
  have lim : s0.heap.NoLimit := e0.mod.nolimit.keeps fun b o q => (e0.bs b o q).1
  refine codeAny_call_function hr.depth (inK _ _ lk) rfl S.co S.gen rfl (PySem.W.codeRec_of inK hcd) (hb _ _ _ _ ?_)
  refine wpAny_newFunctionEnv_cells S.kind (fun ⟨n, v⟩ hy => (S.par n (List.of_mem_zip hy).1).imp id fun q => ⟨q, PySem.W.cellsFrom_some _ _ _ (.inl q)⟩) fun env he s1 x => ?_
  subst he
  refine ⟨lim.keeps x.toInCall.keep, codeAny_func ?_⟩
  obtain ⟨t, ht, hq⟩ := body cdv Ar out s0 H vs Q E hG (hr.deeper _) hsp
  have I : Inv (cxOf CX0 P w K mg base N qual (defScope st) f cdv Ar out s0 H E) [] (start N vs) H s1 := inv_start S hr.hd e0 hl r x
  refine wpAny_mono (ht.nox.run [] s1 (start N vs) H _ I hq) (fun fl s' hs => ?_) fun _ _ hs => hs
  cases fl with
  | ret u => obtain ⟨v, _, H', J, rv, q⟩ := hs; exact ⟨v, H', J.os, J.bare, J.base, J.hok, rv, q⟩
  | next => obtain ⟨_, H', J, q⟩ := hs; exact ⟨V.non, H', J.os, J.bare, J.base, J.hok, rfl, q⟩
  | brk => exact hs.elim fun _ z => z.elim fun _ z => z.2.elim
  | cont => exact hs.elim fun _ z => z.elim fun _ z => z.2.elim
end

section
variable {X : Cx} {CX : CXT} {k : Nat} {f : Addr} {fd : FuncData} {ps ks : List Str} {sp : Sp} {E : XK} {x : Str} {p pos : Pos} {e : Expr} {es : List Expr} {kws : List Keyword} {t tk : TA}
/-- a call's end, whatever was bound -/
theorem run_g {pins : List (Addr × Obj)} {σ : L2.St} {H : Hp} {s : Shared} {Q : VK} {us ws : List Value} {kw : List (Str × Value)} {vs : List V} (F : FnG X.prog X.w X.K X.mg X.base CX k f fd ps sp) (hG : Bare X.A) (hr : Room k X.A) (hx : Passes CX X E) (I : Inv X pins σ H s)
    (hb : BindsTo s fd ⟨us, kw⟩ (ps.zip ws)) (r : Vals vs ws) (h : sp vs H Q E) : wpAny (model X.prog X.w) X.A (call (.ref f) us kw) (EP X pins σ Q) X.xe s := by
  refine wpAny_call (codeAny_mono (F.runs X.A X.stack s H ⟨us, kw⟩ ws vs Q E hG hr I.env0 hb r h) fun res s' hq => ?_)
  rcases res with e | fl
  · exact hx pins σ H s e s' I hq
  · cases fl with
    | ret u => exact I.after hq
    | _ => exact False.elim hq
/-- f(e, ..) -/
theorem pe_callG (F : FnG X.prog X.w X.K X.mg X.base CX k f fd ps sp) (hG : Bare X.A) (hr : Room k X.A) (hg : Gl X x) (hm : X.mg x = some (.ref f)) (hk : PySem.W.keepIn X.K (.ref f) = true) (hb : Binds X.K fd ps []) (hx : Passes CX X E)
    (ha : PA X (e :: es) t) (hdb : (x == ("__debug__" : Str)) = false := by decide) (he : starEach (e :: es) X.env = (false, eval e X.env) :: starEach es X.env := by rfl)
    (hpl : (backTo pos (starEach es X.env)).any (·.1) = false := by rfl) : PE X (.Call (.Name x p) (e :: es) [] pos) (tCall sp [] E t) := by
  constructor
  intro pins s σ H Q I h
  refine wpAny_Call_Name_kw (ld_glob I hg hm ?_ hdb)
  refine PySem.W.callWith_K (h₀ := X.base) I.ok.mod.kin hk (thn (ha.run pos pins s σ H _ I h) fun us s1 hh => ?_) he hpl
  obtain ⟨vs, H1, I1, r, q⟩ := hh
  refine ⟨I1.kIn, ?_⟩
  rw [List.append_nil] at q
  have hl : (us ++ []).length = ps.length := by rw [List.append_nil, ← r.length]; exact F.many _ _ _ _ q
  have hbb := hb s1 us I1.kIn hl
  rw [List.append_nil] at hbb
  exact run_g F hG hr hx I1 hbb r q
/-- f(k=e, ..) -/
theorem pe_callGK (F : FnG X.prog X.w X.K X.mg X.base CX k f fd ps sp) (hG : Bare X.A) (hr : Room k X.A) (hg : Gl X x) (hm : X.mg x = some (.ref f)) (hk : PySem.W.keepIn X.K (.ref f) = true)
    (hb : ∀ (s : Shared) (ws : List Value), ws.length = ps.length → BindsTo s fd ⟨[], ks.zip ws⟩ (ps.zip ws)) (hx : Passes CX X E)
    (hkw : PK X kws tk) (hall : (backToKw pos (keywordEach kws X.env)).all (·.1.isSome) = true := by rfl) (hks : (backToKw pos (keywordEach kws X.env)).filterMap (·.1) = ks := by rfl)
    (hdb : (x == ("__debug__" : Str)) = false := by decide) (hpl : ((backTo pos (starEach [] X.env)).any (·.1) || (backToKw pos (keywordEach kws X.env)).any (·.1.isNone)) = false := by rfl) :
    PE X (.Call (.Name x p) [] kws pos) (tCall sp [] E tk) := by
  constructor
  intro pins s σ H Q I h
  refine wpAny_Call_Name_kw (ld_glob I hg hm ?_ hdb)
  refine PySem.W.callWith_KW0 (h₀ := X.base) I.ok.mod.kin hk hall (thn (hkw.run pos pins s σ H _ I h) fun ws s1 hh => ?_) hpl
  obtain ⟨zs, H1, I1, r, q⟩ := hh
  refine ⟨I1.kIn, ?_⟩
  rw [hks]
  rw [List.append_nil] at q
  exact run_g F hG hr hx I1 (hb s1 ws (by rw [← r.length]; exact F.many _ _ _ _ q)) r q
/-- the same of a def that is promised whatever is under way -/
theorem pe_callK0 (F : FnOk X.prog X.w X.K X.mg X.base CX k f fd ps sp) (hr : Room k X.A) (hg : Gl X x) (hm : X.mg x = some (.ref f)) (hk : PySem.W.keepIn X.K (.ref f) = true)
    (hb : ∀ (s : Shared) (ws : List Value), ws.length = ps.length → BindsTo s fd ⟨[], ks.zip ws⟩ (ps.zip ws)) (hx : Passes CX X E)
    (hkw : PK X kws tk) (hall : (backToKw pos (keywordEach kws X.env)).all (·.1.isSome) = true := by rfl) (hks : (backToKw pos (keywordEach kws X.env)).filterMap (·.1) = ks := by rfl)
    (hdb : (x == ("__debug__" : Str)) = false := by decide) (hpl : ((backTo pos (starEach [] X.env)).any (·.1) || (backToKw pos (keywordEach kws X.env)).any (·.1.isNone)) = false := by rfl) :
    PE X (.Call (.Name x p) [] kws pos) (tCall sp [] E tk) := by
  constructor
  intro pins s σ H Q I h
  refine wpAny_Call_Name_kw (ld_glob I hg hm ?_ hdb)
  refine PySem.W.callWith_KW0 (h₀ := X.base) I.ok.mod.kin hk hall (thn (hkw.run pos pins s σ H _ I h) fun ws s1 hh => ?_) hpl
  obtain ⟨zs, H1, I1, r, q⟩ := hh
  refine ⟨I1.kIn, ?_⟩
  rw [hks]
  rw [List.append_nil] at q
  have hbb := hb s1 ws (by rw [← r.length]; exact F.len _ _ _ _ q)
  refine wpAny_call (codeAny_mono (F.run X.A X.stack s1 H1 ⟨[], ks.zip ws⟩ ws zs Q E hr I1.env0 hbb r q) fun res s' hq => ?_)
  rcases res with e | fl
  · exact hx pins σ H1 s1 e s' I1 hq
  · cases fl with
    | ret u => exact I1.after hq
    | _ => exact False.elim hq
end

section
variable {X : Cx}
/-- repr(x) of data -/
theorem call_reprD (hu : X.A.units + 64 < cLine) (hG : Bare X.A) : CallR X (.builtin "repr") (fun xs H Q => ∃ (a : Addr) (d : PyData), xs = [.ref a] ∧ Dp X.K H (.ref a) d ∧ d.showable = true ∧ d.hasDict = false ∧ d.depth ≤ 60 ∧ d.shown.length ≤ sizeLine ∧ Q (.str d.shown) H) := by
  intro pins s σ H xs us Q I r hh
  obtain ⟨a, d, rfl, hd, h1, h2, h3, h4, q⟩ := hh
  obtain ⟨u, rfl, ru⟩ := vals1 r
  cases (show u = Value.ref a from ru)
  obtain ⟨as, hR⟩ := Dp.reads I d _ _ hd (show RelV (.ref a) (.ref a) from rfl)
  refine repr_of_reads' hR h1 (fun z => by rw [h2] at z; cases z) hG (by omega) (fun _ _ e => e) (fun h' u tk hk => ?_) h4
  exact ⟨.str d.shown, H, I.kept hk, ⟨_, rfl⟩, q⟩
/-- a text, repeated -/
def repS (z : Str) (n : Int) : Str := if n < 1 then Str.empty else if n = 1 ∨ z.length = 0 then z else ⟨(List.replicate n.toNat z.cps).foldl (· ++ ·) #[]⟩
theorem op_mulS : OpR X (binaryOp .Mult) (fun x y H Q => ∃ (z : Str) (n : Int), x = .str z ∧ y = .int n ∧ 0 ≤ n ∧ n ≤ 1000 ∧ z.length ≤ 1000 ∧ (repS z n).length ≤ sizeLine ∧ Q (.str (repS z n)) H) := by
  intro pins s σ H x y v u Q I rx ry h
  obtain ⟨z, n, rfl, rfl, h0, h1, hz, hl, q⟩ := h
  obtain ⟨t, rfl⟩ := rx
  obtain ⟨t', rfl⟩ := ry
  have hp : (z.length : Int) * n ≤ 1000 * 1000 := Int.mul_le_mul (by omega) h1 h0 (by omega)
  refine PySem.P.mul_str ?_ (fun hn _ => ?_) (fun hn _ => ?_) ?_
  · rw [decide_eq_false (by omega), decide_eq_false (by omega)]; rfl
  · have := (Int.le_ediv_iff_mul_le (a := (z.length : Int)) (b := (2 ^ 63 - 1 : Int)) (c := n) (by omega)).mpr (by omega)
    omega
  · unfold Builtin.Str.tooLong
    refine decide_eq_false ?_
    have e : ((z.length * n.toNat : Nat) : Int) = (z.length : Int) * n := by rw [Int.natCast_mul, Int.toNat_of_nonneg h0]
    have : (1000 * 1000 : Nat) ≤ sizeLine := by decide
    omega
  · revert hl q
    unfold repS
    intro hl q
    by_cases c : n < 1
    · rw [if_pos c] at q ⊢
      exact ⟨by decide, .str Str.empty, H, I.tok _, ⟨_, rfl⟩, q⟩
    · rw [if_neg c] at hl q ⊢
      by_cases c2 : n = 1 ∨ z.length = 0
      · rw [if_pos c2] at q
        rw [if_pos (by rcases c2 with e | e <;> simp [e])]
        exact ⟨.str z, H, I, ⟨t, rfl⟩, q⟩
      · rw [if_neg c2] at hl q
        rw [if_neg (by intro e; apply c2; simpa using e)]
        exact ⟨hl, .str _, H, I.tok _, ⟨_, rfl⟩, q⟩
end

/-! ### the end of a law whose def is promised where no repr is under way -/
section
variable {P : Program} {w : World} {K : PySem.W.Frag} {mg mb : Str → Option Value} {k : Nat} {fa a : Addr} {fd : FuncData} {x : Str} {sp : Sp} {s₁ : Shared} {vs : List Value} {ns : List Int}
/-- the law's call where at most the script is tracked -/
theorem lawG_at (hns : s₁.heap.Ns mainGlobals mg) (hb : s₁.heap.Ns builtinsNs mb) (hbb : ∀ x : Str, x ≠ "__name__" → mb x = bootBuiltins x) (hlim : s₁.heap.NoLimit) (hg : s₁.gens = #[])
    (ha : s₁.heap.get? a = some { cls := .type "list", data := .seq vs.toArray }) (hr : Room k callerA)
    (F : ∀ base : Heap, K.In base → base.Ns mainGlobals mg → FnG P w K mg base CX0 k fa fd [x] sp) (hbind : ∀ (s : Shared) (u : Value), BindsTo s fd ⟨[u], []⟩ [(x, u)])
    (H : Hp) (hO : Only H) (hok : HOk P w H s₁.heap) (hA : ∀ b, H b ≠ none → b = a) (KH : K.In (hidT s₁.heap H)) (h : sp [.ref a] H (fun v _ => v = .bl true) fun _ _ _ => False) :
    codeAny (model P w) callerA (.call (.ref fa) ⟨[.ref a], []⟩) (fun r s' => r = .ok (.ret (.bool true)) ∧ OldK s₁.heap s'.heap ∧ s'.os = s₁.os ∧ AllBare s'.gens) s₁ := by
  have spare : ∀ {b : Addr} {m : Str → Option Value}, s₁.heap.Ns b m → (hidT s₁.heap H).Ns b m := by
    rintro b m ⟨o, es, ep, e, d, z⟩
    refine ⟨o, es, ep, hidT_get e ?_, d, z⟩
    refine Classical.byContradiction fun n => ?_
    have e' := hA b n
    subst e'
    rw [ha] at e
    cases e
    exact nomatch (show Data.seq vs.toArray _ = Data.dict es ep from d)
  have M : Mod K mg (hidT s₁.heap H) := ⟨KH, spare hns, ⟨mb, spare hb, hbb⟩, hlim.imp fun mc q => ⟨spare q.1, q.2⟩⟩
  have e0 : Env0 P w K mg (hidT s₁.heap H) callerA [] s₁ H := ⟨rfl, M, fun b o e => of_hidT e, Nat.le_of_eq (hidT_size _ _), trivial, fun b z => (List.not_mem_nil (show b ∈ ([] : List Addr) from z)).elim, hok, .of_eq hg⟩
  refine codeAny_mono ((F _ KH (spare hns)).runs callerA [] s₁ H ⟨[.ref a], []⟩ [.ref a] [.ref a] _ _ rfl hr e0 (hbind s₁ (.ref a)) (.cons rfl .nil) h) ?_
  rintro r s' hq
  rcases r with e | fl
  · exact False.elim hq
  cases fl with
  | ret u =>
    obtain ⟨v, H', os, bare, un, hok', ru, rfl⟩ := hq
    obtain rfl : u = Value.bool true := ru
    refine ⟨rfl, OldK.of_keep fun b o e => ?_, os, bare⟩
    rcases hO b with z | ⟨ob, xs, z⟩
    · exact un.keep b o e z (fun q => nomatch (show b ∈ ([] : List Addr) from q)) (fun q => nomatch q)
    · have e1 := (hok b _ z).1
      have e2 := (hok' b _ (un.frzs b ob _ z)).1
      rw [e] at e1
      cases e1
      exact e2
  | _ => exact False.elim hq
theorem lawG_call (KX : K.In s₁.heap) (hns : s₁.heap.Ns mainGlobals mg) (hb : s₁.heap.Ns builtinsNs mb) (hbb : ∀ x : Str, x ≠ "__name__" → mb x = bootBuiltins x) (hlim : s₁.heap.NoLimit) (hg : s₁.gens = #[])
    (ha : s₁.heap.get? a = some { cls := .type "list", data := .seq vs.toArray }) (hi : IntsAre vs ns) (hl : ns.length ≤ sizeLine) (hr : Room k callerA)
    (F : ∀ base : Heap, K.In base → base.Ns mainGlobals mg → FnG P w K mg base CX0 k fa fd [x] sp) (hbind : ∀ (s : Shared) (u : Value), BindsTo s fd ⟨[u], []⟩ [(x, u)])
    (hsp : ∀ H : Hp, Only H → SqL K H a (ns.map V.int) → sp [.ref a] H (fun v _ => v = .bl true) fun _ _ _ => False) :
    codeAny (model P w) callerA (.call (.ref fa) ⟨[.ref a], []⟩) (fun r s' => r = .ok (.ret (.bool true)) ∧ OldK s₁.heap s'.heap ∧ s'.os = s₁.os ∧ AllBare s'.gens) s₁ := by
  have rv := vals_ints hi
  have zl : vs.length ≤ sizeLine := by rw [hi.length]; exact hl
  by_cases hk : K.lookup a = none
  · let H : Hp := fun b => if b = a then some (.frz { cls := .type "list", data := .seq vs.toArray } (.lst (ns.map V.int))) else none
    have at_a : H a = some (.frz { cls := .type "list", data := .seq vs.toArray } (.lst (ns.map V.int))) := if_pos rfl
    have off : ∀ b, b ≠ a → H b = none := fun b n => if_neg n
    have hA : ∀ b, H b ≠ none → b = a := fun b n => Classical.byContradiction fun z => n (off b z)
    have hO : Only H := fun b => by
      by_cases z : b = a
      · subst z; exact .inr ⟨_, _, at_a⟩
      · exact .inl (off b z)
    refine lawG_at hns hb hbb hlim hg ha hr F hbind H hO (fun b u z => ?_) hA (fun b o e => hidT_get (KX b o e) ?_) (hsp H hO (.inl (.inr ⟨_, at_a⟩)))
    · have e := hA b (by rw [z]; exact nofun)
      subst e
      rw [at_a] at z
      cases z
      exact ⟨ha, by rw [List.length_map]; exact hl, vs, _, rv, ha⟩
    · refine off b fun z => ?_
      subst z
      rw [hk] at e
      cases e
  · obtain ⟨o, ho⟩ := Option.ne_none_iff_exists'.mp hk
    have e := KX a o ho
    rw [ha] at e
    cases e
    have hO : Only (fun _ => none) := fun _ => .inl rfl
    refine lawG_at hns hb hbb hlim hg ha hr F hbind (fun _ => none) hO (fun b u z => nomatch (show (none : Option HO) = some u from z)) (fun b z => absurd rfl z) (fun b o e => hidT_get (KX b o e) rfl) (hsp _ hO ?_)
    exact .inr ⟨_, vs.toArray, _, ho, rfl, rfl, rfl, by rw [List.size_toArray]; exact zl, by simpa using rv⟩
end
theorem walk_G {l : PySem.W.OpenLaw} {n k : Nat} {q : Program} {loose : List Str} {XP : (Str → Option Value) → Heap → Prop} {YP : World → Heap → Prop} {d : DefRec} {K : Params → PySem.W.Frag} {sp : PySem.W.Frag → Sp} {x : Str}
    (hn : l.most = some n) (hn2 : n ≤ sizeLine) (hdf : d.params.defaults = []) (hr : Room k callerA) (hY : ∀ (w : World) (h : Heap), YP w h → (K w.params).In h)
    (F : ∀ (w : World) (mg : Str → Option Value) (fa : Addr) (h : Heap), (K w.params).In h → h.Ns mainGlobals mg → mg d.name = some (.ref fa) →
      ∃ fd : FuncData, (∀ (s : Shared) (u : Value), BindsTo s fd ⟨[u], []⟩ [(x, u)]) ∧ ∀ base : Heap, (K w.params).In base → base.Ns mainGlobals mg → FnG l.prog w (K w.params) mg base CX0 k fa fd [x] (sp (K w.params)))
    (hsp : ∀ (K : PySem.W.Frag) (H : Hp) (a : Addr) (ns : List Int), ns.length ≤ n → SqL K H a (ns.map V.int) → sp K [.ref a] H (fun v _ => v = .bl true) fun _ _ _ => False) :
    PySem.W.WalkO q loose XP YP l.row.toRowW d [] (fun f vs => PySem.call f vs) := by
  refine Att.attach_call hn hdf fun w s₀ s₁ mg mb fa o pm cd dc a vs ns G Y ho hd hcd hmg hobj hints hlen hg => ?_
  obtain ⟨fd, hb, hF⟩ := F w mg fa _ (hY w _ Y) G.T.g hmg
  exact lawG_call (hY w _ Y) G.T.g G.T.b G.T.builtins G.T.nolimit hg hobj hints (Nat.le_trans hlen hn2) hr hF hb fun H _ hS => hsp _ H a ns hlen hS
end Br

set_option Elab.async false
set_option linter.all false
set_option maxRecDepth 100000
set_option maxHeartbeats 4000000
/-! Exceptions that are caught and kept behind the clause, and looked at there. -/
namespace Br
open PySem PySem.Spec PyProof.Rows L2
/-- at e: an exception of the class cls, its dict (if any) at d -/
def exv (e : Addr) (cls : Value) (d : Option Addr) : HO := .ext fun h => ∃ (o : Obj) (vs : Array Value), h.get? e = some o ∧ o.cls = cls ∧ o.dict = d ∧ o.data = .fields vs
theorem exv_ok {P : Program} {w : World} {H : Hp} {h : Heap} {e : Addr} {cls : Value} {d : Option Addr} {o : Obj} {vs : Array Value} (he : h.get? e = some o) (hz : Zc cls d o) (hd : o.data = .fields vs) : ObjOk P w H h e (exv e cls d) :=
  ⟨⟨o, vs, he, hz.1, hz.2, hd⟩, ⟨o, he⟩, fun h1 h2 z k => by
    obtain ⟨o, vs, q, r⟩ := z
    exact ⟨o, vs, k _ q, r⟩⟩
theorem exv_at {P : Program} {w : World} {H : Hp} {h : Heap} {e : Addr} {cls : Value} {d : Option Addr} (ok : HOk P w H h) (he : H e = some (exv e cls d)) : ∃ (o : Obj) (vs : Array Value), h.get? e = some o ∧ o.cls = cls ∧ o.dict = d ∧ o.data = .fields vs := by
  have x : ObjOk P w H h e (.ext fun h => ∃ (o : Obj) (vs : Array Value), h.get? e = some o ∧ o.cls = cls ∧ o.dict = d ∧ o.data = .fields vs) := ok e _ he
  exact x.1
section
variable {X : Cx} {pins : List (Addr × Obj)} {σ : L2.St} {H : Hp} {s : Shared}
/-- an exception that stands untracked, made since the def began, is tracked from here on -/
theorem track {a : Addr} {oe : Obj} {vs : Array Value} {cls : Value} {d : Option Addr} (I : Inv X pins σ H s) (ha : s.heap.get? a = some oe) (hz : Zc cls d oe) (hd : oe.data = .fields vs) (na : H a = none)
    (n0 : X.s_0.heap.get? a = none) (nL : a ≠ X.env.locals) (np : ∀ p ∈ X.pn ++ pins, p.1 ≠ a) : Inv X pins σ (upd H a (exv a cls d)) s where
  ok := I.ok
  os := I.os
  bare := I.bare
  base := {
    keep := I.base.keep
    slot := I.base.slot
    free := fun b o q n hx => by
      rw [upd_ne (fun z => by rw [z, n0] at q; cases q)]
      exact I.base.free b o q n hx
    there := I.base.there
    tups := fun b xs q => by
      have r := I.base.tups b xs q
      rw [upd_ne (ne_of_none r na)]
      exact r
    frzs := fun b o u q => by
      have r := I.base.frzs b o u q
      rw [upd_ne (ne_of_none r na)]
      exact r
    tbls := fun b ps q => by
      obtain ⟨m, r⟩ := I.base.tbls b ps q
      exact ⟨m, by rw [upd_ne (ne_of_none r na)]; exact r⟩ }
  loc := I.loc
  cell := I.cell
  free := by rw [upd_ne nL.symm]; exact I.free
  freeC := fun x c e => by
    rw [upd_ne (fun z => ?_)]
    · exact I.freeC x c e
    · obtain ⟨v, o, e1, e2⟩ := I.cell x c e
      rw [z, ha] at e1
      cases e1
      rw [hd] at e2
      cases e2
  pin := fun p hp => by
    obtain ⟨e, n, r⟩ := I.pin p hp
    exact ⟨e, by rw [upd_ne (np p hp)]; exact n, r⟩
  hok := fun b o q => by
    by_cases hb : b = a
    · subst hb
      rw [upd_same] at q
      cases q
      exact exv_ok ha hz hd
    · rw [upd_ne hb] at q
      exact (I.hok b o q).stay (fun _ _ _ z => z) (fun c z => by rw [upd_ne (ne_of_none z na)]; exact z) fun c xs z => by rw [upd_ne (ne_of_none z na)]; exact z
  len := I.len
end

/-- what is wished of an exception of the body of «try: .. except x as n: suite», where what the clause took is kept behind it -/
def wKeep (K : PySem.W.Frag) (c : Value) (i : Nat) (ts : Addr → Value → Option Addr → TS) (Wout : WX) (D : Ends) : WX := fun cls d σ H =>
  ∃ b, PySem.W.exmOne K cls c = some b ∧ (b = true → ∀ a, H a = none → ts a cls d { nx := fun σ' H' => H' a = none → D.nx (σ'.set i none) (upd H' a (exv a cls d)), rt := fun _ _ => False, bk := fun _ _ => False, ct := fun _ _ => False } (σ.set i (some (.ref a))) H) ∧ (b = false → Wout cls d σ H)
section
variable {X : Cx} {x n : Str} {c : Value} {i : Nat} {body suite : List Stmt} {b₀ : Stmt} {np pos pos' : Pos} {tb : WX → TS} {ts : Addr → Value → Option Addr → TS} {Wout : WX}
theorem ps_try_keep (hs : X.stack = X.env :: X.outer) (hf : X.env.frame = some X.env.locals) (hN : X.N.Nodup) (hi : X.N[i]? = some n) (hln : X.env.kindOf n = some .local) (hc : Names X x c) (tk : Takes X Wout) (hex : X.ex = [])
    (hb : ∀ (W : WX) (pn : List (Addr × Obj)) (xe : Value → Shared → Prop), Takes (X.tr pn xe) W → PassesOwn (model X.prog X.w) X.A X.env xe → PSs (X.tr pn xe) body (tb W))
    (hsu : ∀ (a : Addr) (oe : Obj) (cls : Value) (d : Option Addr) (pn : List (Addr × Obj)), Zc cls d oe → (∃ vs, oe.data = .fields vs) → PSs (X.suite a ((a, oe) :: pn)) (b₀ :: suite) (ts a cls d)) :
    PS X (.Try body [.ExceptHandler (some (.Name x np)) (some n) (b₀ :: suite) pos'] [] [] pos) (fun D σ H => tb (wKeep X.K c i ts Wout D) D σ H) := by
  constructor
  intro pins s σ H D I h
  have ok := I.ok
  have hfr : X.A.frames = some (X.env :: X.outer) := by rw [ok.frames, hs]
  refine wpAny_Try_except (wpAny_mono ((hb (wKeep X.K c i ts Wout D) (X.pn ++ pins) (fun e s₁ => wpAny (model X.prog X.w) X.A (noteFrame e X.env) (fun _ s₂ => wpAny (model X.prog X.w) X.A (setFlight e none) (fun _ s₃ =>
    wpAny (model X.prog X.w) X.A (handleBy e X.env [.ExceptHandler (some (.Name x np)) (some n) (b₀ :: suite) pos']) (SP X pins D) X.xe s₃) X.xe s₂) X.xe s₁) (fun u s' xx => ?_) PassesOwn.looking).run [] s σ H D (I.toTry _) h) (fun fl s1 q => ?_) (fun e s1 q => q))
  · obtain ⟨a, B, sI, pins', σ', H', cls, d, rfl, J', nb, up, sky, na, os, ag, b, hb1, hyes, hno⟩ := xx
    have J : Inv X pins σ' H' sI := J'.ofTry ok
    rw [show (X.tr (X.pn ++ pins) _).stack = X.env :: X.outer from hs] at sky
    show wpAny (model X.prog X.w) X.A (noteFrame (.ref a) X.env) _ _ _
    refine Sky.land Zc.steady hfr hf sky fun h3 fl3 up3 => ?_
    have J3 : Inv X pins σ' H' { s' with heap := h3 } := J.landed nb fl3.1 (up.trans up3) os ag
    obtain ⟨oe3, vs3, he3, hz3, hd3⟩ := fl3.there
    have nB : B.get? a = none := fl3.2.1
    have nfr : a ∉ frs (X.env :: X.outer) := fun hm => by
      obtain ⟨_, o', e', hnf⟩ := fl3.2.2.1.mem hm
      rw [he3] at e'
      cases e'
      exact hnf _ hd3
    have nL : a ≠ X.env.locals := fun z => nfr (List.mem_filterMap.mpr ⟨X.env, List.mem_cons_self, by rw [hf, z]⟩)
    have nF : a ∉ X.fs := fun hm => by
      obtain ⟨e, he, q⟩ := List.mem_filterMap.mp hm
      exact nfr (List.mem_filterMap.mpr ⟨e, List.mem_cons_of_mem _ he, q⟩)
    have nstk : a ∉ frs X.stack := by rw [hs]; exact nfr
    have nI : sI.heap.get? a = none := by
      cases q : sI.heap.get? a with
      | none => rfl
      | some o =>
        have z := nb a o q nstk
        rw [nB] at z
        cases z
    have n0 : X.s_0.heap.get? a = none := by
      cases q : X.s_0.heap.get? a with
      | none => rfl
      | some o =>
        obtain ⟨o', z⟩ := J.base.there a o q (by rw [hex]; exact List.not_mem_nil)
        rw [nI] at z
        cases z
    have npin : ∀ p ∈ X.pn ++ pins, p.1 ≠ a := fun p hp z => by
      have e := (J.pin p hp).1
      rw [z, nI] at e
      cases e
    have S3 := J3.suite he3 hd3 na nL nF
    refine wpAny_handleBy_cons (codeAny_handlers_test ?_) (by intro q; cases q)
    have LT : PySem.W.Looks (model X.prog X.w) h3 (typeOf (.ref a)) cls := fun _ _ _ _ k q => wpAny_typeOf_ref (k _ _ he3) (by rw [hz3.1]; exact q)
    have LM := PySem.W.exm_one (M := model X.prog X.w) J3.kIn LT hb1
    have test : ∀ {Q : Value → Shared → Prop} {E : Value → Shared → Prop}, Q c { s' with heap := h3 } → wpAny (model X.prog X.w) (X.A.mark (some (.ref a))) (eval (.Name x np) X.env) Q E { s' with heap := h3 } := by
      intro Q E q
      obtain ⟨hg, hdbg, hm | ⟨hm, hv, hnn⟩⟩ := hc
      · exact ld_glob (X := X.suite a ((a, oe3) :: (X.pn ++ pins))) S3 hg hm q hdbg
      · exact ld_blt (X := X.suite a ((a, oe3) :: (X.pn ++ pins))) S3 hg hm hv q hnn hdbg
    refine test (LM.here ?_)
    cases b with
    | true =>
      refine codeAny_handlers_suite_as (HandSPX.lands_againZ fl3 fun h4 fl4 up4 => ?_)
      have J4 : Inv X pins σ' H' { s' with heap := h4 } := J.landed nb fl4.1 ((up.trans up3).trans up4) os ag
      obtain ⟨oe4, vs4, he4, hz4, hd4⟩ := fl4.there
      refine store_ok (X := X.suite a ((a, oe4) :: (X.pn ++ pins))) (v := .ref a) (J4.suite he4 hd4 na nL nF) hN hi (.inl hln) rfl (fun s5 S5 => ?_) (.inr hln)
      refine wpAny_mono ((hsu a oe4 cls d (X.pn ++ pins) hz4 ⟨_, hd4⟩).run [] s5 _ H' _ S5 (hyes rfl a na)) (fun f s6 hsp => ?_) (fun _ _ z => False.elim z)
      cases f with
      | next =>
        obtain ⟨σ6, H6, S6, q6⟩ := hsp
        obtain ⟨g1, g2, _⟩ := S6.pin (a, oe4) (List.mem_append_left _ List.mem_cons_self)
        exact gone_ok (track (S6.unsuite ok) g1 hz4 hd4 g2 n0 nL npin) hN hi hln fun s7 J7 => ⟨_, _, J7, q6 g2⟩
      | brk => exact hsp.elim fun _ z => z.elim fun _ z => z.2.elim
      | cont => exact hsp.elim fun _ z => z.elim fun _ z => z.2.elim
      | ret u => exact hsp.elim fun _ z => z.elim fun _ z => z.elim fun _ z => z.2.2.elim
    | false =>
      show wpAny _ X.A (handleBy (.ref a) X.env []) _ _ _
      refine wpAny_handleBy_nil ?_
      obtain ⟨k1, k2, k3, oe, vs, T, oT, ts', he, hz, hd, h1, hr⟩ := id fl3
      unfold PySem.passOn
      refine wpAny_bind (wpAny_field he hd h1 ?_)
      rw [if_neg (show ¬ ((Value.ref T == Value.none) = true) from by simp)]
      have fin : wpAny (model X.prog X.w) X.A (setFlight (.ref a) X.env.frame) (fun _ s4 => wpAny (model X.prog X.w) X.A (throw (.ref a) : Sem Flow) (SP X pins D) X.xe s4) X.xe { s' with heap := h3 } := by
        rw [hf]
        exact HandSPX.setFlight_upZ fl3 fun h4 hh4 up4 => wpAny_throw (tk _ _ ⟨a, B, sI, pins, σ', H', cls, d, rfl, J, nb, (up.trans up3).trans up4, .inr (.inr (by rw [hs]; exact hh4)), na, os, ag, hno rfl⟩)
      first
        | exact wpAny_bind (wpAny_pure (wpAny_bind fin))
        | exact wpAny_bind fin
  · cases fl with
    | next => obtain ⟨σ', H', K', z⟩ := q; exact wpAny_execs_nil ⟨σ', H', K'.ofTry ok, z⟩
    | brk => obtain ⟨σ', H', K', z⟩ := q; exact ⟨σ', H', K'.ofTry ok, z⟩
    | cont => obtain ⟨σ', H', K', z⟩ := q; exact ⟨σ', H', K'.ofTry ok, z⟩
    | ret u => obtain ⟨v, σ', H', K', r, z⟩ := q; exact ⟨v, σ', H', K'.ofTry ok, r, z⟩
end

/-! ### isinstance and fields of what is kept -/
section
open PySem.W PySem.Calls
variable {prog : Program} {w : World} {A : Around} {E : Value → Shared → Prop} {s : Shared} {K : Frag} {x D : Addr} {ox : Obj} {od : Option Obj}
theorem find_class (C : ExcC K D) : findObj K D od "__class__" = some (.bind (.builtin "getset_descriptor.__get__") (.builtin "object.__class__")) := by
  obtain ⟨cd, hc, _⟩ := any_some C.hd
  unfold findObj
  rw [hc, Option.bind_some, C.ha, Option.bind_some]
  simp [C.hn, C.ht]
/-- x.__class__ of an exception, whatever its dict -/
theorem class_of_exc {Q : Option Value → Shared → Prop} (C : ExcC K D) (X : K.In s.heap) (I : W.InstAt s.heap x ox D od) (h : Q (some (.ref D)) { s with toks := s.toks + 1 }) : wpAny (model prog w) A (getAttr? (.ref x) "__class__") Q E s := by
  obtain ⟨hp, gs, dr, t, os⟩ := s
  have la := I.type (M := model prog w)
  have lb := looks_findIn (M := model prog w) X C.hg
  have lc := looks_findIn (M := model prog w) X C.hk
  have ld := looks_find (M := model prog w) X I (find_class C)
  have le : Looks (model prog w) hp (isInstance (.ref x) (.type "BaseException")) true := la.andThen (looks_subIn X C.hs)
  have ne : (Value.builtin "BaseException.__getattribute__" == Value.builtin "object.__getattribute__") = false := by decide +kernel
  have ne2 : (onTheHeap (Value.ref D) && (Value.builtin "BaseException.__getattribute__" == Value.builtin "object.__getattribute__")) = false := by rw [ne]; rfl
  unfold getAttr? getAttrBy? getAttrBy
  refine wpAny_bind (wpAny_mkText (wpAny_bind (wpAny_attempt (wpAny_holding (wpAny_bind (la.at (wpAny_bind (lb.at ?g0))))))))
  case g0 =>
  show wpAny _ _ (if (onTheHeap (Value.ref D) && (Value.builtin "BaseException.__getattribute__" == Value.builtin "object.__getattribute__")) = true then _ else _) _ _ _
  rw [ne2, if_neg Bool.false_ne_true]
  unfold getAttrByItsOwn hookBefore
  refine wpAny_bind ?g1
  case g1 =>
  rw [if_pos (show onTheHeap (Value.ref D) = true from rfl)]
  refine lc.at (wpAny_bind (wpAny_attempt (wpAny_holding ?g2)))
  case g2 =>
  unfold callGetattribute
  rw [show (false && onTheHeap (Value.builtin "BaseException.__getattribute__")) = false from rfl, if_neg Bool.false_ne_true]
  unfold boundAndCalled
  rw [PySem.F.excAttr_ValueError.ga.bind (.ref x)]
  refine wpAny_bind (wpAny_pure ?g3)
  case g3 =>
  show wpAny _ _ (call (.builtin "BaseException.__getattribute__") [.ref x, .str "__class__" t]) _ _ _
  refine wpAny_call (codeAny_call_builtin PySem.F.excAttr_ValueError.ga.plain PySem.F.entry_bexc_ga ?g4)
  case g4 =>
  refine @check_slot (model prog w) _ _ ⟨hp, gs, dr, t + 1, os⟩ "BaseException.__getattribute__" "BaseException" "__getattribute__" (.ref x) [.str "__class__" t] [] _ (by decide +kernel) (by decide +kernel) le (PySem.F.args_bexc_ga (.ref x) (.str "__class__" t)) ?g5
  case g5 =>
  unfold Builtin.«object.__getattribute__»
  refine wpAny_bind (wpAny_of_eq (a := ((Value.ref x : Value), [Value.str "__class__" t])) (by first | rfl | (simp only [slotArgs]; rfl)) ?g6)
  case g6 =>
  refine wpAny_bind (wpAny_pure (wpAny_bind (la.at (wpAny_bind (ld.at ?g7)))))
  case g7 =>
  show wpAny _ _ (holding [Value.builtin "object.__class__"] (call (.builtin "getset_descriptor.__get__") [.builtin "object.__class__", .ref x, .ref D]) >>= ret) _ _ _
  refine wpAny_bind (wpAny_holding (wpAny_call (class_get (s := ⟨hp, gs, dr, t + 1, os⟩) (ox := ox) (od := od) X I C.hm ?g8)))
  case g8 =>
  refine wpAny_pure ?g9
  case g9 =>
  show wpAny _ _ (handedOut (.ref D)) _ _ _
  rw [handedOut_of (v := .ref D) rfl]
  first
    | exact wpAny_pure (wpAny_pure h)
    | exact wpAny_pure h
    | exact wpAny_pure (wpAny_bind (wpAny_pure (wpAny_pure h)))
theorem cls_there (C : ExcC K D) : ∃ c d cd sl, K.lookup D = some ⟨c, d, .cls cd, sl⟩ := by
  obtain ⟨cd, hc, _⟩ := any_some C.hd
  unfold clsIn at hc
  split at hc
  · rename_i c d cd' sl ho
    exact ⟨c, d, cd', sl, ho⟩
  · cases hc
theorem kit_exc (C : ExcC K D) : KitX K (.ref x) (.ref D) (fun h => W.InstAt h x ox D od) where
  ty := fun _ _ _ I => I.type
  it := fun _ _ X _ => by
    obtain ⟨c, d, cd, sl, ho⟩ := cls_there C
    intro A' Q' E' s' k q
    unfold isType loadHead
    exact wpAny_bind (wpAny_loadPart (k _ _ (X _ _ ho)) (wpAny_pure q))
  ne := fun h tp dd its n sl X htp => by
    obtain ⟨c, d, cd, sl', ho⟩ := cls_there C
    refine Bool.eq_false_iff.mpr fun q => ?_
    have e : D = tp := Value.ref.inj (beq_iff_eq.mp q)
    subst e
    cases (X _ _ ho).symm.trans htp
  ca := fun X I k => class_of_exc C X I k
end
section
variable {X : Cx}
theorem exv_inst {pins : List (Addr × Obj)} {σ : L2.St} {H : Hp} {s : Shared} {a D dd : Addr} {fs : List (Str × V)} (I : Inv X pins σ H s) (ha : H a = some (exv a (.ref D) (some dd))) (hd : H dd = some (.xd fs)) :
    ∃ (oe od : Obj) (mA : Str → Option Value), PySem.W.InstAt s.heap a oe D (some od) ∧ s.heap.get? dd = some od ∧ s.heap.Ns1 dd mA ∧ ∀ f, RelO (fs.lookup f) (mA f) := by
  obtain ⟨oe, vs, h1, h2, h3, h4⟩ := exv_at I.hok ha
  obtain ⟨mA, hns, hr⟩ := (show ObjOk X.prog X.w H s.heap dd (.xd fs) from I.hok dd _ hd)
  obtain ⟨od, ho, hl⟩ := lookIn_ns hns
  exact ⟨oe, od, mA, ⟨h1, h2, by unfold PySem.W.notCls; rw [h4] <;> rfl, by rw [h3]; exact ho⟩, ho, hns, hr⟩
/-- isinstance(e, c) of what is kept -/
theorem call_isV : CallR X (.builtin "isinstance") (fun xs H Q => ∃ (a D dd : Addr) (fs : List (Str × V)) (c : V) (cv : Value) (b : Bool), xs = [.ref a, c] ∧ H a = some (exv a (.ref D) (some dd)) ∧ H dd = some (.xd fs) ∧ ExcC X.K D ∧ ClsV c cv ∧ PySem.W.kitOne X.K (.ref D) cv = some b ∧ Q (.bl b) H) := by
  intro pins s σ H xs us Q I r h
  obtain ⟨a, D, dd, fs, c, cv, b, rfl, ha, hd, C, k, e, q⟩ := h
  obtain ⟨u1, u2, rfl, r1, r2⟩ := vals2 r
  cases (show u1 = Value.ref a from r1)
  cases k.eq r2
  obtain ⟨oe, od, mA, J, _⟩ := exv_inst I ha hd
  exact PySem.W.kia_one (kit_exc C) I.kIn J e (fun z => nomatch z) fun tk => ⟨.bl b, H, I.tok tk, rfl, q⟩
/-- isinstance(e, (c1, c2, ..)) of what is kept -/
theorem call_isVT : CallR X (.builtin "isinstance") (fun xs H Q => ∃ (a D dd tp : Addr) (fs : List (Str × V)) (cs : List V) (ws : List Value) (b : Bool), xs = [.ref a, .ref tp] ∧ H a = some (exv a (.ref D) (some dd)) ∧ H dd = some (.xd fs) ∧ H tp = some (.tup cs) ∧ ExcC X.K D ∧ Paired ClsV cs ws ∧ PySem.W.kitAny X.K (.ref D) ws = some b ∧ Q (.bl b) H) := by
  intro pins s σ H xs us Q I r h
  obtain ⟨a, D, dd, tp, fs, cs, ws, b, rfl, ha, hd, hT, C, k, e, q⟩ := h
  obtain ⟨u1, u2, rfl, r1, r2⟩ := vals2 r
  cases (show u1 = Value.ref a from r1)
  cases (show u2 = Value.ref tp from r2)
  obtain ⟨oe, od, mA, J, _⟩ := exv_inst I ha hd
  obtain ⟨_, its, rv, o, h1, h2, n, h3⟩ := (show ObjOk X.prog X.w H s.heap tp (.tup cs) from I.hok tp _ hT)
  cases ClsV.all k rv
  obtain ⟨oc, o2, dt, sl⟩ := o
  cases (show oc = _ from h2)
  cases (show dt = _ from h3)
  exact PySem.W.kia_tup (kit_exc C) I.kIn J h1 e (fun z => nomatch z) fun tk => ⟨.bl b, H, I.tok tk, rfl, q⟩
/-- e.f of what is kept -/
def tXv (K : PySem.W.Frag) (f : Str) (te : TE) : TE := fun σ H Q => te σ H fun x H1 => ∃ (a D dd : Addr) (fs : List (Str × V)) (v : V), x = .ref a ∧ H1 a = some (exv a (.ref D) (some dd)) ∧ H1 dd = some (.xd fs) ∧ XfC K D ∧ PySem.W.findIn K (.ref D) f = some none ∧ fs.lookup f = some v ∧ Q v H1
theorem pe_xv {e : Expr} {te : TE} {pos : Pos} {f : Str} (he : PE X e te) (hb : attributeBase e f X.env (eval e X.env) = eval e X.env := by rfl) : PE X (.Attribute e f pos) (tXv X.K f te) := by
  constructor
  intro pins s σ H Q I h
  refine attr_of hb (thn (he.run pins s σ H _ I h) fun u s1 hh => ?_)
  obtain ⟨x, H1, I1, rx, a, D, dd, fs, v, ex, ha, hd, T, hno, l, q⟩ := hh
  subst ex
  cases (show u = Value.ref a from rx)
  obtain ⟨oe, od, mA, J, ho, hns, hr⟩ := exv_inst I1 ha hd
  obtain ⟨od', ho', hl⟩ := lookIn_ns hns
  cases ho.symm.trans ho'
  obtain ⟨u, hu, ru⟩ := RelO.some_of (v := v) (o := mA f) (by rw [← l]; exact hr f)
  exact HandSPX.exc_get I1.kIn J T.ga T.gg T.exC (PySem.W.findObj_own T.hdC hno rfl (by rw [hl, hu])) (handed_of ru) ⟨v, H1, I1.tok _, ru, q⟩
end

/-! ### what the written part says of own classes -/
section
open PySem.W
variable {K : Frag} {C D : Addr}
theorem cls_ok (h2 : isClsIn K D = true) (h3 : typeIn K (.ref D) = some (.type "type")) : ((clsIn K D).isSome && typeIn K (.ref D) == some (.type "type")) = true := by
  have h2' : (clsIn K D).isSome = true := h2
  rw [h2', h3]
  rfl
theorem exm_own (h1 : subIn K (.ref C) (.type "BaseException") = some true) (h2 : isClsIn K C = true) (h3 : typeIn K (.ref C) = some (.type "type")) (h4 : subIn K (.ref C) (.ref C) = some true) : exmOne K (.ref C) (.ref C) = some true := by
  unfold exmOne kitCls
  rw [h1]
  simp only [cls_ok h2 h3, if_true, h4]
  rfl
theorem kit_own (hs : subIn K (.ref C) (.ref C) = some true) (h : subIn K (.ref C) (.ref D) = some false) (h2 : isClsIn K D = true) (h3 : typeIn K (.ref D) = some (.type "type")) : kitOne K (.ref C) (.ref D) = some false := by
  have ne : (Value.ref C == Value.ref D) = false := by
    refine Bool.eq_false_iff.mpr fun q => ?_
    have e : C = D := Value.ref.inj (beq_iff_eq.mp q)
    rw [← e, hs] at h
    cases h
  unfold kitOne kitCls
  rw [ne]
  simp only [cls_ok h2 h3, if_true, h, Bool.false_eq_true, if_false]
theorem kit_typ {T : String} {b : Bool} (h : subIn K (.ref C) (.type T) = some b) (m : kitMeta T = true) : kitOne K (.ref C) (.type T) = some b := by
  have ne : (Value.ref C == Value.type T) = false := rfl
  unfold kitOne kitCls
  rw [ne]
  simp only [m, if_true, h, Bool.false_eq_true, if_false]
end

section
variable {X : Cx}
/-- {x}: None, a text or a whole number -/
def tFmtA (te : TE) : TE := fun σ H Q => te σ H fun x H1 => (x = .non ∧ Q (.str "None") H1) ∨ (∃ y : Str, x = .str y ∧ y.length ≤ sizeLine ∧ Q (.str y) H1) ∨ ∃ i : Int, x = .int i ∧ i.natAbs.log2 < 1920 ∧ Q (.str (toString i)) H1
theorem pe_fmtA {e : Expr} {te : TE} {pos : Pos} (he : PE X e te) : PE X (.FormattedValue e (-1) none pos) (tFmtA te) := by
  constructor
  intro pins s σ H Q I h
  refine wpAny_FormattedValue_plain (thn (he.run pins s σ H _ I h) fun v s1 hv => ?_)
  obtain ⟨x, H1, I1, r1, q⟩ := hv
  rcases q with ⟨rfl, q⟩ | ⟨y, rfl, hz, q⟩ | ⟨i, rfl, hz, q⟩
  · cases r1
    exact wpAny_formatField_none ⟨.str "None", H1, I1.tok _, ⟨_, rfl⟩, q⟩
  · obtain ⟨t, rfl⟩ := r1
    exact wpAny_formatField_str ⟨.str y, H1, I1, ⟨t, rfl⟩, q⟩ ⟨.str y, H1, I1.tok _, ⟨_, rfl⟩, q⟩ hz
  · obtain ⟨t, rfl⟩ := r1
    exact wpAny_formatField_int hz ⟨.str (toString i), H1, I1.tok _, ⟨_, rfl⟩, q⟩
end
end Br

set_option Elab.async false
set_option linter.all false
set_option maxRecDepth 100000
set_option maxHeartbeats 4000000
/-! t < u of tuples whose items are whole numbers and texts, place by place of one kind. -/
namespace Br
open PySem PySem.Spec PyProof.Rows L2
def ltKey : Key → Key → Bool
  | .inl a, .inl b => decide (a < b)
  | .inr x, .inr y => decide (x.cps.toList < y.cps.toList)
  | _, _ => false
def lexK : List Key → List Key → Bool
  | x :: xs, y :: ys => if x = y then lexK xs ys else ltKey x y
  | [], _ :: _ => true
  | _, _ => false
/-- of one kind -/
def kin : Key → Key → Bool
  | .inl _, .inl _ => true
  | .inr _, .inr _ => true
  | _, _ => false
abbrev KeyV (k : Key) (u : Value) : Prop := RelV (kV k) u
theorem key_eqAt (Ar : Around) (s : Shared) {x y : Key} {u v : Value} (hu : KeyV x u) (hv : KeyV y v) (k : kin x y = true) : ∃ e, SeqAt.EqAt Ar s u v e ∧ (e = true ↔ x = y) := by
  match x, y, k, hu, hv with
  | .inl a, .inl b, _, hu, hv =>
    obtain ⟨t, rfl⟩ := hu
    obtain ⟨t', rfl⟩ := hv
    exact ⟨(a == b), SeqAt.EqAt.int_int a t b t', by simp⟩
  | .inr a, .inr b, _, hu, hv =>
    obtain ⟨t, rfl⟩ := hu
    obtain ⟨t', rfl⟩ := hv
    refine ⟨decide (a = b), ?_, by simp⟩
    intro prog w E Q h
    exact wpAny_eqBool_str h
theorem key_lt (Ar : Around) (s : Shared) {x y : Key} {u v : Value} (hu : KeyV x u) (hv : KeyV y v) (k : kin x y = true) (prog : Program) (w : World) (E : Value → Shared → Prop) (Q : Value → Shared → Prop) (h : Q (.bool (ltKey x y)) s) :
    wpAny (model prog w) Ar (richCompare .Lt u v) Q E s := by
  match x, y, k, hu, hv with
  | .inl a, .inl b, _, hu, hv =>
    obtain ⟨t, rfl⟩ := hu
    obtain ⟨t', rfl⟩ := hv
    exact (PyProof.Rows.lt_int h : wpAny (model prog w) Ar (compareOp .Lt (.int a t) (.int b t')) Q E s)
  | .inr a, .inr b, _, hu, hv =>
    obtain ⟨t, rfl⟩ := hu
    obtain ⟨t', rfl⟩ := hv
    exact (PySem.P.lt_str h : wpAny (model prog w) Ar (compareOp .Lt (.str a t) (.str b t')) Q E s)
section
open PySem.SeqAt
open PySem.AutoSeq1 (wpAny_loadPart')
open PySem.MeetsSeq PySem.MeetsSeq2 PySem.MeetsSeq3
theorem tuple_lt_keys (l b : Addr) (items items2 : Array Value) (n n2 : Nat) (dd dd2 : Option Addr) (sl sl2 : Array (Option Value)) (ks ms : List Key) (hi : Paired KeyV ks items.toList) (hj : Paired KeyV ms items2.toList) (hk : Paired (fun x y => kin x y = true) ks ms) :
    Meets (Builtin.«tuple.__lt__» ⟨[.ref l, .ref b], []⟩)
      (fun _ R s => s.heap.get? l = some { cls := .type "tuple", dict := dd, data := .seq items n, slots := sl } ∧ s.heap.get? b = some { cls := .type "tuple", dict := dd2, data := .seq items2 n2, slots := sl2 } ∧ R (.ok (.ret (.bool (lexK ks ms)))) s) :=
  .of_wp fun prog w Ar R s h => by
    obtain ⟨hp, gs, dr, tk, os⟩ := s
    obtain ⟨hl, hb, h⟩ := h
    have f2 := AutoSeq1.sub_tuple_tuple
    have z1 : items.size = ks.length := by rw [hi.length]; simp
    have z2 : items2.size = ms.length := by rw [hj.length]; simp
    have z3 := hk.length
    wp_walk using wpAny_loadPart' hl, wpAny_loadPart' hb, wpAny_forIn_list _ (fun rest q s' => q.1 = none ∧ s' = ⟨hp, gs, dr, tk, os⟩ ∧ ∃ (vs ws : List Value) (ks' ms' : List Key), rest = vs.zip ws ∧
      Paired KeyV ks' vs ∧ Paired KeyV ms' ws ∧ Paired (fun x y => kin x y = true) ks' ms' ∧ R (.ok (.ret (.bool (lexK ks' ms')))) ⟨hp, gs, dr, tk, os⟩) _
    case turn =>
      rintro ⟨y, x⟩ rest q s' ⟨hq, rfl, vs, ws, ks', ms', hz, hvi, hwi, hkk, hR⟩
      cases hkk with
      | nil =>
        cases hvi
        cases hz
      | cons kk hkk' =>
        cases hvi with
        | cons a hvi' =>
          cases hwi with
          | cons c hwi' =>
            rw [List.zip_cons_cons] at hz
            injection hz with hyx hrest
            injection hyx with hy hx
            subst hy hx
            unfold lexK at hR
            obtain ⟨e, he, hiff⟩ := key_eqAt Ar.in1 ⟨hp, gs, dr, tk, os⟩ a c kk
            refine wpAny_bind (he prog w _ _ ?_)
            cases e with
            | true =>
              rw [if_pos (hiff.mp rfl)] at hR
              wp_walk
              exact ⟨rfl, rfl, _, _, _, _, hrest, hvi', hwi', hkk', hR⟩
            | false =>
              rw [if_neg (fun z => absurd (hiff.mpr z) Bool.false_ne_true)] at hR
              have hri := key_lt Ar.in1 ⟨hp, gs, dr, tk, os⟩ a c kk prog w
              wp_walk using hri
              exact ⟨_, rfl, by simpa using hR⟩
    case fin =>
      rintro ⟨b1, b2⟩ s' ⟨hq, rfl, vs, ws, ks', ms', hz, hvi, hwi, hkk, hR⟩
      simp only at hq
      subst hq
      have hv : lexK ks' ms' = decide (items.size < items2.size) := by
        have e : decide (items.size < items2.size) = false := decide_eq_false (by omega)
        rw [e]
        cases hkk with
        | nil => rfl
        | cons kk hkk' =>
          cases hvi
          cases hwi
          rw [List.zip_cons_cons] at hz
          cases hz
      rw [hv] at hR
      wp_walk
      exact ⟨_, rfl, by simpa [Builtin.Tuple.tupleCompareSizes] using hR⟩
    case h =>
      exact ⟨rfl, rfl, items.toList, items2.toList, ks, ms, rfl, hi, hj, hk, h⟩
end
section
variable {X : Cx}
theorem keys_of : ∀ {ks : List Key} {us : List Value}, Vals (ks.map kV) us → Paired KeyV ks us
  | [], _, .nil => .nil
  | _ :: _, _, .cons r t => .cons r (keys_of t)
def rLtN (K : PySem.W.Frag) : R2 := fun x y H Q => ∃ (a b : Addr) (ks ms : List Key), x = .ref a ∧ y = .ref b ∧ SqT K H a (ks.map kV) ∧ SqT K H b (ms.map kV) ∧ Paired (fun x y => kin x y = true) ks ms ∧ Q (.bl (lexK ks ms)) H
/-- t < u -/
theorem op_ltN0 (hu : X.A.units < cLine) : OpR X (compareOp .Lt) (fun x y H Q => ∃ (a b : Addr) (ks ms : List Key), x = .ref a ∧ y = .ref b ∧ SqT X.K H a (ks.map kV) ∧ SqT X.K H b (ms.map kV) ∧ Paired (fun x y => kin x y = true) ks ms ∧ Q (.bl (lexK ks ms)) H) := by
  intro pins s σ H x y v u Q I rx ry h
  obtain ⟨a, b, ks, ms, rfl, rfl, ha, hb, hk, q⟩ := h
  cases rx
  cases ry
  obtain ⟨its, r1, p1, _⟩ := I.tuple ha
  obtain ⟨its2, r2, p2, _⟩ := I.tuple hb
  obtain ⟨⟨cls, dd, data, sl⟩, ho, hc, n, hd⟩ := p1
  obtain ⟨⟨cls2, dd2, data2, sl2⟩, ho2, hc2, n2, hd2⟩ := p2
  simp only at hc hd hc2 hd2
  subst hc hd hc2 hd2
  exact richCompare_meets_room (op := .Lt) ⟨_, ho, rfl⟩ ⟨_, ho2, rfl⟩ PySem.F.slot_tuple_lt PySem.F.entry_tuple_lt (PySem.F.args_tuple_lt_2 _ _) (tuple_lt_keys a b _ _ n n2 dd dd2 sl sl2 ks ms (by simpa using keys_of r1) (by simpa using keys_of r2) hk)
    ⟨ho, ho2, show Value.bool (lexK ks ms) ≠ Value.notImplemented ∧ _ from ⟨(fun x => nomatch x), ⟨.bl (lexK ks ms), H, I, rfl, q⟩⟩⟩ hu
/-- the same, the written part by its name (for use within a comprehension) -/
theorem op_ltN (K : PySem.W.Frag) (hu : X.A.units < cLine) (hK : X.K = K := by rfl) : OpR X (compareOp .Lt) (rLtN K) := by
  subst hK
  exact op_ltN0 hu
theorem ix_tupK (K : PySem.W.Frag) (hK : X.K = K := by rfl) : IxR X (rIxT K) := by
  subst hK
  exact ix_tup
theorem ix_listK (K : PySem.W.Frag) (hK : X.K = K := by rfl) : IxR X (rIxL K) := by
  subst hK
  exact ix_list
theorem op_eqDK (K : PySem.W.Frag) (hu : X.A.units + 64 < cLine) (hK : X.K = K := by rfl) : OpR X (compareOp .Eq) (rEqD K) := by
  subst hK
  exact op_eqD hu
theorem op_neDK (K : PySem.W.Frag) (hu : X.A.units + 64 < cLine) (hK : X.K = K := by rfl) : OpR X (compareOp .NotEq) (rNeD K) := by
  subst hK
  exact op_neD hu
end
end Br

set_option Elab.async false
set_option linter.all false
set_option maxRecDepth 100000
set_option maxHeartbeats 4000000
/-! Texts split by one sign: the parts are the one way to write the text as parts without the sign, with the sign between. -/
namespace Br
open PySem PySem.Spec PyProof.Rows L2
def glue1 (c : Nat) : List (List Nat) → List Nat
  | [] => []
  | [a] => a
  | a :: b :: r => a ++ c :: glue1 c (b :: r)
theorem app_sep {c : Nat} : ∀ {a b x y : List Nat}, c ∉ a → c ∉ b → a ++ c :: x = b ++ c :: y → a = b ∧ x = y
  | [], [], _, _, _, _, h => by
    simp only [List.nil_append, List.cons.injEq, true_and] at h
    exact ⟨rfl, h⟩
  | [], b :: bs, _, _, _, hb, h => by
    simp only [List.nil_append, List.cons_append, List.cons.injEq] at h
    exact absurd (h.1 ▸ List.mem_cons_self) hb
  | a :: as, [], _, _, ha, _, h => by
    simp only [List.nil_append, List.cons_append, List.cons.injEq] at h
    exact absurd (h.1 ▸ List.mem_cons_self) ha
  | a :: as, b :: bs, _, _, ha, hb, h => by
    simp only [List.cons_append, List.cons.injEq] at h
    obtain ⟨h1, h2⟩ := app_sep (fun z => ha (List.mem_cons_of_mem _ z)) (fun z => hb (List.mem_cons_of_mem _ z)) h.2
    exact ⟨by rw [h.1, h1], h2⟩
theorem glue1_inj {c : Nat} : ∀ {ps qs : List (List Nat)}, ps ≠ [] → qs ≠ [] → (∀ p ∈ ps, c ∉ p) → (∀ p ∈ qs, c ∉ p) → glue1 c ps = glue1 c qs → ps = qs
  | [], _, h, _, _, _, _ => absurd rfl h
  | _, [], _, h, _, _, _ => absurd rfl h
  | [a], [b], _, _, _, _, h => by
    have h' : a = b := h
    rw [h']
  | [a], b :: b' :: r, _, _, ha, _, h => by
    have h' : a = b ++ c :: glue1 c (b' :: r) := h
    exact absurd (h' ▸ List.mem_append_right _ List.mem_cons_self) (ha a List.mem_cons_self)
  | a :: a' :: r, [b], _, _, _, hb, h => by
    have h' : a ++ c :: glue1 c (a' :: r) = b := h
    exact absurd (h' ▸ List.mem_append_right _ List.mem_cons_self) (hb b List.mem_cons_self)
  | a :: a' :: r, b :: b' :: t, _, _, ha, hb, h => by
    obtain ⟨h1, h2⟩ := app_sep (ha a List.mem_cons_self) (hb b List.mem_cons_self) (show a ++ c :: glue1 c (a' :: r) = b ++ c :: glue1 c (b' :: t) from h)
    rw [h1, glue1_inj (List.cons_ne_nil _ _) (List.cons_ne_nil _ _) (fun p hp => ha p (List.mem_cons_of_mem _ hp)) (fun p hp => hb p (List.mem_cons_of_mem _ hp)) h2]
theorem codes_app (x y : Str) : (x ++ y).cps.toList = x.cps.toList ++ y.cps.toList := Array.toList_append
theorem join_codes (c : Nat) : ∀ ps : List Str, (Str.join ⟨#[c]⟩ ps).cps.toList = glue1 c (ps.map fun p => p.cps.toList)
  | [] => rfl
  | [x] => rfl
  | x :: y :: r => by
    show (x ++ ⟨#[c]⟩ ++ Str.join ⟨#[c]⟩ (y :: r)).cps.toList = _
    rw [codes_app, codes_app, join_codes c (y :: r), List.append_assoc]
    rfl
/-- the parts, put together again -/
theorem split_codes (z : Str) (c : Nat) : glue1 c ((Txt.split z ⟨#[c]⟩).map fun p => p.cps.toList) = z.cps.toList := by
  unfold Txt.split
  split
  · rfl
  · split
    · rfl
    · rw [← join_codes, ← StrLaws.glued_eq_join]
      exact congrArg (fun s : Str => s.cps.toList) (StrLaws.glued_between_self z ⟨#[c]⟩ (z.length + 1))
theorem split_ne (z : Str) (c : Nat) : Txt.split z ⟨#[c]⟩ ≠ [] := by
  unfold Txt.split
  split
  · exact List.cons_ne_nil _ _
  · split
    · exact List.cons_ne_nil _ _
    · exact fun h => by
        have := length_partsBetween z (Builtin.Str.occurrences z ⟨#[c]⟩ 0 z.length (z.length + 1)) (⟨#[c]⟩ : Str).length
        rw [h] at this
        cases this
/-- the one way -/
theorem split_of {c : Nat} {ps : List Str} (hn : ps ≠ []) (hf : ∀ p ∈ ps, c ∉ p.cps.toList) {z : Str} (hz : z.cps.toList = glue1 c (ps.map fun p => p.cps.toList)) : Txt.split z ⟨#[c]⟩ = ps := by
  have e := glue1_inj (c := c) (ps := (Txt.split z ⟨#[c]⟩).map fun p => p.cps.toList) (qs := ps.map fun p => p.cps.toList) (by simpa using split_ne z c) (by simpa using hn)
    (fun p hp => by obtain ⟨q, hq, rfl⟩ := List.mem_map.mp hp; exact StrLaws.split_free z c q hq) (fun p hp => by obtain ⟨q, hq, rfl⟩ := List.mem_map.mp hp; exact hf q hq) (by rw [split_codes, hz])
  have inj : ∀ {as bs : List Str}, as.map (fun p => p.cps.toList) = bs.map (fun p => p.cps.toList) → as = bs := by
    intro as
    induction as with
    | nil =>
      intro bs h
      cases bs with
      | nil => rfl
      | cons b bs => cases h
    | cons a as ih =>
      intro bs h
      cases bs with
      | nil => cases h
      | cons b bs =>
        simp only [List.map_cons, List.cons.injEq] at h
        have e : a = b := by
          cases a; cases b
          simp only [Str.mk.injEq]
          exact Array.toList_inj.mp h.1
        rw [e, ih h.2]
  exact inj e
/-- x, the sign, y -/
theorem split_two {c : Nat} {x y : Str} (hx : c ∉ x.cps.toList) (hy : c ∉ y.cps.toList) : Txt.split (x ++ ⟨#[c]⟩ ++ y) ⟨#[c]⟩ = [x, y] := by
  refine split_of (List.cons_ne_nil _ _) (fun p hp => ?_) ?_
  · rcases List.mem_cons.mp hp with rfl | hp
    · exact hx
    · rw [List.mem_singleton.mp hp]; exact hy
  · rw [codes_app, codes_app, List.append_assoc]
    rfl
end Br

set_option Elab.async false
set_option linter.all false
set_option maxRecDepth 100000
set_option maxHeartbeats 4000000
/-! t[::-1] of a tuple of two items or more. -/
namespace Br
open PySem PySem.Spec PyProof.Rows L2
theorem places_back (n : Nat) : Builtin.Slice.slicePlaces ((n : Int) - 1) (-1) (-1) = n := by
  unfold Builtin.Slice.slicePlaces
  split
  all_goals first | omega | (simp; omega) | skip
theorem adjust_back (n : Nat) : Builtin.Slice.sliceAdjust none none (-1) (n : Int) = ((n : Int) - 1, -1) := by
  unfold Builtin.Slice.sliceAdjust
  rfl
theorem range_pick {α : Type} : ∀ l : List α, (List.range l.length).filterMap (fun m => l[m]?) = l
  | [] => rfl
  | a :: l => by
    rw [List.length_cons, List.range_succ_eq_map, List.filterMap_cons, List.filterMap_map]
    show a :: (List.range l.length).filterMap (fun m => l[m]?) = a :: l
    rw [range_pick l]
theorem fm_congr {α β : Type} {f g : α → Option β} : ∀ {l : List α}, (∀ a ∈ l, f a = g a) → l.filterMap f = l.filterMap g
  | [], _ => rfl
  | a :: l, h => by
    rw [List.filterMap_cons, List.filterMap_cons, h a List.mem_cons_self, fm_congr fun b hb => h b (List.mem_cons_of_mem _ hb)]
theorem pick_back (xs : Array Value) : ((List.range xs.size).filterMap fun (m : Nat) => xs[(((xs.size : Int) - 1) + (m : Int) * (-1)).toNat]?).toArray = xs.toList.reverse.toArray := by
  congr 1
  have e := range_pick xs.toList.reverse
  rw [List.length_reverse, Array.length_toList] at e
  refine Eq.trans ?_ e
  refine fm_congr fun m hm => ?_
  have hm' : m < xs.size := List.mem_range.mp hm
  rw [List.getElem?_reverse (by rw [Array.length_toList]; exact hm'), Array.length_toList]
  have ei : (((xs.size : Int) - 1) + (m : Int) * (-1)).toNat = xs.size - 1 - m := by omega
  rw [ei]
  exact (Array.getElem?_toList ..).symm
section
open HT
variable {prog : Program} {w : World} {A : Around} {E : Value → Shared → Prop} {s : Shared}
theorem applied_back {sl : Addr} {vl vu vs : Value} {n : Nat} {Q : Int × Int × Nat → Shared → Prop} (hs : s.heap.IsSliceOf sl vl vu vs) (pl : IsPart vl none) (pu : IsPart vu none) (pk : IsPart vs (some (-1)))
    (h : Q ((n : Int) - 1, -1, n) s) : wpAny (model prog w) A (Builtin.Slice.sliceApplied (.ref sl) (pure (n : Int))) Q E s := by
  obtain ⟨os, hos, hcs, hds⟩ := id hs
  unfold Builtin.Slice.sliceApplied Builtin.Slice.sliceFields
  refine wpAny_bind (wpAny_bind (wpAny_field hos hds (x := vl) rfl (wpAny_bind (wpAny_field hos hds (x := vu) rfl (wpAny_bind (wpAny_field hos hds (x := vs) rfl (wpAny_pure ?g)))))))
  case g =>
  refine wpAny_bind (slicePart_ pk ?g1)
  case g1 =>
  show wpAny _ _ (if ((-1 : Int) == 0) = true then _ else _) _ _ s
  rw [if_neg (by decide)]
  refine wpAny_bind (slicePart_ pl (wpAny_bind (slicePart_ pu (wpAny_bind (wpAny_pure ?g2)))))
  case g2 =>
  show wpAny _ _ (match Builtin.Slice.sliceAdjust none none (-1) (n : Int) with | (lo, hi) => pure (lo, (-1 : Int), Builtin.Slice.slicePlaces lo hi (-1))) _ _ s
  rw [adjust_back]
  show wpAny _ _ (pure ((n : Int) - 1, (-1 : Int), Builtin.Slice.slicePlaces ((n : Int) - 1) (-1) (-1))) _ _ s
  rw [places_back]
  exact wpAny_pure h
theorem getItem_tuple_back {t sl : Addr} {items : Array Value} {vl vu vs : Value} {Q : Value → Shared → Prop} (ht : IsTup s.heap t items) (hs : s.heap.IsSliceOf sl vl vu vs) (pl : IsPart vl none) (pu : IsPart vu none) (pk : IsPart vs (some (-1)))
    (h : Q (.ref s.heap.objs.size) { s with heap := s.heap.push { cls := .type "tuple", data := .seq items.toList.reverse.toArray } }) (hsz : items.size ≤ sizeLine) : wpAny (model prog w) A (getItem (.ref t) (.ref sl)) Q E s := by
  have hrev : sizeOk (.seq items.toList.reverse.toArray) := by
    show items.toList.reverse.toArray.size ≤ sizeLine
    rw [List.size_toArray, List.length_reverse, Array.length_toList]
    exact hsz
  obtain ⟨os, hos, hcs, hds⟩ := id hs
  have tys : s.TypeIs (.ref sl) "slice" := ⟨os, hos, hcs⟩
  unfold getItem
  try with_reducible refine wpAny_holding ?_
  first | refine wpAny_bind (wpAny_pure ?g0) | skip
  try case g0 => skip
  refine wpAny_bind (wpAny_sequenceKey ht.typeIs (by decide) ?_)
  refine wpAny_bind (wpAny_callSpecial?_slot (name := Str.ofString "__getitem__") ht.typeIs PyProof.Rows.slot_tuple_getitem (wpAny_call_entry PyProof.Rows.slot_tuple_getitem ht.typeIs entry_tuple_getitem ?g1 (args_tuple_getitem _ _)))
  case g1 =>
  show wpAny _ _ (Builtin.Tuple.tupleItemsOf (.ref t) >>= _) _ _ s
  refine wpAny_bind (tupleItemsOf_ ht (wpAny_bind (wpAny_typeOf tys ?g2)))
  case g2 =>
  rw [if_pos (by decide)]
  refine wpAny_bind (applied_back (n := items.size) hs pl pu pk ?g3)
  case g3 =>
  show wpAny _ _ (if (((items.size : Int) - 1) == 0 && (-1 : Int) == 1 && items.size == items.size) = true then _ else _) _ _ s
  rw [if_neg (by rw [show ((-1 : Int) == 1) = false from rfl, Bool.and_false, Bool.false_and]; exact Bool.false_ne_true), pick_back]
  first
    | exact wpAny_bind (m := Builtin.Tuple.tupleExact _) (wpAny_newObj_type (wpAny_pure ⟨_, rfl, wpAny_pure h⟩) hrev)
    | exact wpAny_bind (m := Builtin.Tuple.tupleExact _) (wpAny_newObj_type (wpAny_bind (wpAny_pure (wpAny_pure ⟨_, rfl, wpAny_pure h⟩))) hrev)
    | exact wpAny_bind (wpAny_bind (m := Builtin.Tuple.tupleExact _) (wpAny_newObj_type (wpAny_pure (wpAny_pure ⟨_, rfl, wpAny_pure h⟩)) hrev))
    | exact wpAny_bind (wpAny_bind (m := Builtin.Tuple.tupleExact _) (wpAny_newObj_type (wpAny_pure ⟨_, rfl, wpAny_pure h⟩) hrev))
end
section
variable {X : Cx}
/-- t[::-1] -/
def tRevT (K : PySem.W.Frag) (te : TE) : TE := fun σ H Q => te σ H fun x H1 => ∃ a xs, x = .ref a ∧ SqT K H1 a xs ∧ ∀ p, H1 p = none → Q (.ref p) (upd H1 p (.tup xs.reverse))
theorem pe_revT {e : Expr} {te : TE} {k : Nat} {p1 p2 p3 pos : Pos} (he : PE X e te) : PE X (.Subscript e (.Slice none none (some (.UnaryOp .USub (.Constant (.int 1) k p1) p2)) p3) pos) (tRevT X.K te) := by
  constructor
  intro pins s σ H Q I h
  refine Subscript_ (thn (he.run pins s σ H _ I h) fun v s1 hh => ?_)
  obtain ⟨x, H1, I1, r1, a, xs, ex, hx, q⟩ := hh
  subst ex
  cases (show v = Value.ref a from r1)
  have back : PO X (some (.UnaryOp .USub (.Constant (.int 1) k p1) p2)) (tPart (tUn (rU fun i => .int (-i)) (tC (.int 1)))) := po_some (pe_un un_neg pe_int)
  refine wpAny_Slice (thn (po_none.run pins s1 σ H1 (fun o H2 => o = none ∧ H2 = H1) I1 ⟨rfl, rfl⟩) fun vl s2 hl => ?_)
  obtain ⟨l, H2, I2, pl, rfl, rfl⟩ := hl
  refine thn (po_none.run pins s2 σ H2 (fun o H3 => o = none ∧ H3 = H2) I2 ⟨rfl, rfl⟩) fun vu s3 hu => ?_
  obtain ⟨u, H3, I3, pu, rfl, rfl⟩ := hu
  refine thn (back.run pins s3 σ H3 (fun o H4 => o = some (-1) ∧ H4 = H3) I3 ⟨1, rfl, -1, rfl, rfl, rfl⟩) fun vs s4 hk => ?_
  obtain ⟨o, H4, I4, pk, rfl, rfl⟩ := hk
  have I5 : Inv X pins σ H4 { s4 with heap := s4.heap.push { cls := .type "slice", data := .fields #[vl, vu, vs] } } := I4.kept (t' := s4.toks) fun b ob z => Heap.get?_push_of_some _ z
  obtain ⟨its, r, ht, hz⟩ := I5.tuple hx
  have hlen := r.length
  show wpAny (model X.prog X.w) X.A (subscriptTail e (.Slice none none (some (.UnaryOp .USub (.Constant (.int 1) k p1) p2)) p3) (.ref a) (.ref s4.heap.objs.size)) (EP X pins σ Q) X.xe { s4 with heap := s4.heap.push { cls := .type "slice", data := .fields #[vl, vu, vs] } }
  refine tail_any (ops := [.ref a, .ref s4.heap.objs.size]) ht.typeIs PyProof.Rows.slot_tuple_getitem.lookup ?_ (by with_unfolding_all rfl)
  refine getItem_tuple_back ht (Heap.IsSliceOf.new _ vl vu vs) pl pu pk ?_ (by rw [List.size_toArray]; omega)
  refine ⟨.ref _, _, I5.laid (t' := s4.toks) (o := .tup xs.reverse) (fun b ob z => Heap.get?_push_of_some _ z) (Nat.le_refl _) ?_, rfl, q _ (I5.hok.fresh (Nat.le_refl _))⟩
  exact ⟨by rw [List.length_reverse]; exact hz, its.reverse, r.reverse, IsTup.new _ _⟩
end
end Br

set_option Elab.async false
set_option linter.all false
set_option maxRecDepth 100000
set_option maxHeartbeats 4000000
/-! sorted(xs), xs a list of tuples (text, whole number). -/
namespace Br
open PySem PySem.Spec PyProof.Rows L2
def nkeys (n : Str × Int) : List Key := [.inr n.1, .inl n.2]
def ltN (x y : Str × Int) : Bool := lexK (nkeys x) (nkeys y)
/-- a tuple (text, number) stands at v -/
def NameAt (K : PySem.W.Frag) (H : Hp) (v : V) (n : Str × Int) : Prop := ∃ b, v = .ref b ∧ SqT K H b ((nkeys n).map kV)
def rawKey (n : Str × Int) : List (Int ⊕ List Nat) := [.inr n.1.cps.toList, .inl n.2]
theorem str_ext {x y : Str} (h : x.cps.toList = y.cps.toList) : x = y := by
  cases x; cases y
  simp only [Str.mk.injEq]
  exact Array.toList_inj.mp h
theorem raw_lt (x y : Str × Int) : (listOrd itemOrd).blt (rawKey x) (rawKey y) = ltN x y := by
  obtain ⟨x, n⟩ := x
  obtain ⟨y, m⟩ := y
  show (decide (x.cps.toList < y.cps.toList) || (!decide (y.cps.toList < x.cps.toList) && (decide (n < m) || (!decide (m < n) && false)))) = (if (Sum.inr x : Key) = Sum.inr y then (if (Sum.inl n : Key) = Sum.inl m then false else decide (n < m)) else decide (x.cps.toList < y.cps.toList))
  rw [Bool.and_false, Bool.or_false]
  by_cases e : x = y
  · subst e
    have irr : decide (x.cps.toList < x.cps.toList) = false := decide_eq_false (List.lt_irrefl _)
    rw [if_pos rfl, irr]
    by_cases k : n = m
    · subst k
      rw [if_pos rfl]
      simp
    · rw [if_neg (fun z => k (Sum.inl.inj z))]
      rfl
  · rw [if_neg (fun z => e (Sum.inr.inj z))]
    by_cases h : x.cps.toList < y.cps.toList
    · rw [decide_eq_true h]
      rfl
    · have h2 : y.cps.toList < x.cps.toList := by
        have h3 : y.cps.toList ≤ x.cps.toList := List.not_lt.mp h
        rcases Std.le_iff_lt_or_eq.mp h3 with z | z
        · exact z
        · exact absurd (str_ext z.symm) e
      rw [decide_eq_false h, decide_eq_true h2]
      rfl
theorem tups_of {h : Heap} {shape : Nat → Bool} : ∀ {vs : List Value}, (∀ v ∈ vs, ∃ f, TupOf h shape v f) → ∃ fs, TupsOf h shape vs fs
  | [], _ => ⟨[], .nil⟩
  | v :: vs, k => by
    obtain ⟨f, hf⟩ := k v List.mem_cons_self
    obtain ⟨fs, hfs⟩ := tups_of fun u hu => k u (List.mem_cons_of_mem _ hu)
    exact ⟨f :: fs, .cons hf hfs⟩
section
variable {prog : Program} {w : World} {A : Around} {E : Value → Shared → Prop} {s : Shared}
/-- the heap with a new list of these at its end -/
def collected (h : Heap) (items : Array Value) : Heap := (h.push { cls := .type "list", data := .seq ([] : List Value).toArray }).update h.objs.size (Obj.mapSeq (· ++ items))
/-- collect, of a list or tuple, with the heap behind it -/
theorem collect_exact {Q : List Value → Shared → Prop} (l : Addr) {T : String} {o : Obj} {items : Array Value} {n : Nat} (hT : T = "list" ∨ T = "tuple") (ho : s.heap.get? l = some o) (hc : o.cls = .type T) (hd : o.data = .seq items n)
    (q : Q items.toList { s with heap := collected s.heap items }) (hsz : items.size ≤ sizeLine) : wpAny (model prog w) A (collect (.ref l)) Q E s := by
  unfold collect
  refine wpAny_bind (wpAny_runValue (codeAny_builtin F.entry_proto_collect ?c0))
  case c0 =>
  rw [Around.under_plainId F.plain_proto_collect _]
  show wpAny _ A.in1 (newList [] >>= fun x => again (.builtin "list.__iadd__" ⟨[x, .ref l], []⟩)) _ _ s
  refine wpAny_bind (wpAny_newObj_type (wpAny_pure ⟨plainId_quiet F.plain_list_iadd _, codeAny_builtin F.entry_list_iadd ?c1⟩))
  case c1 =>
  rw [Around.under_plainId F.plain_list_iadd _]
  show wpAny _ A.in1 (Builtin.List.listExtendWith (.ref s.heap.objs.size) (.ref l) (.ref s.heap.objs.size)) _ _ _
  have at0 : (s.heap.push { cls := .type "list", data := .seq ([] : List Value).toArray }).get? s.heap.objs.size = some { cls := .type "list", data := .seq #[] 0 } := Heap.get?_push_size _ rfl
  have at1 := Heap.get?_update_self (Obj.mapSeq (· ++ items)) at0 rfl
  have last : wpAny (model prog w) A (match Value.ref s.heap.objs.size with
      | Value.ref a => do
        match (← load a).data with
          | Data.seq xs _ => pure xs.toList
          | _ => unsupported "internal:collect"
      | _ => unsupported "internal:collect") Q E { s with heap := collected s.heap items } := by
    show wpAny _ A (load s.heap.objs.size >>= _) _ _ _
    refine wpAny_bind (wpAny_load at1 (wpAny_pure ?c2))
    case c2 =>
    show Q ((#[] : Array Value) ++ items).toList _
    rw [show ((#[] : Array Value) ++ items).toList = items.toList by simp]
    exact q
  refine wpAny_mono (wpAny_extend_seq (hsz := hsz) (A := A) (R := fun r s' => r = .ok (.ret (.ref s.heap.objs.size)) ∧ s' = { s with heap := collected s.heap items }) (s := { s with heap := s.heap.push { cls := .type "list", data := .seq ([] : List Value).toArray } }) _ l _ 0 hT at0 (Heap.get?_push_of_some _ ho) hc hd ⟨rfl, rfl⟩) (fun fin s' h => ?c3) (fun e s' h => absurd h.1 (by simp))
  case c3 =>
  cases fin with
  | done f =>
    obtain ⟨e, rfl⟩ := h
    cases e
    exact last
  | again c' =>
    refine ⟨h.1, codeAny_mono h.2 fun r s'' hr => ?_⟩
    obtain ⟨rfl, rfl⟩ := hr
    exact last
theorem collected_old {h : Heap} {items : Array Value} {b : Addr} {o : Obj} (e : h.get? b = some o) : (collected h items).get? b = some o :=
  (Heap.get?_update_other _ _ (Nat.ne_of_gt (Heap.lt_size e))).trans (Heap.get?_push_of_some _ e)
theorem collected_size {h : Heap} {items : Array Value} : (collected h items).objs.size = h.objs.size + 1 := by
  unfold collected
  rw [Heap.size_update, size_push']
theorem sorted_tupsT {shape : Nat → Bool} {l : Addr} {o : Obj} {vs fs : List Value} {n : Nat} {Q : Value → Shared → Prop} (ho : s.heap.get? l = some o) (hc : o.cls = .type "tuple") (hd : o.data = .seq vs.toArray n)
    (ht : ∀ h2 : Heap, (∀ b o, s.heap.get? b = some o → h2.get? b = some o) → TupsOf h2 shape vs fs) (hk : ∀ h2 : Heap, (∀ b o, s.heap.get? b = some o → h2.get? b = some o) → ∀ v, v ∈ vs → ∃ x, G.tupKeyC h2 shape v = some x) (hL : vs.length ≤ sizeLine)
    (h : ∀ (h1 : Heap) (st' : SortSt), (∀ b o, s.heap.get? b = some o → h1.get? b = some o) → h1.objs.size = s.heap.objs.size + 2 → h1.get? (s.heap.objs.size + 1) = some (seqObj "list" vs.toArray 0) → (arrOf st').Perm (pairsOf vs) → SortedToK (G.tupKindC h1 shape) (arrOf st') (pairsOf vs).size →
      Q (.ref (s.heap.objs.size + 1)) { s with heap := sortedHeap h1 (s.heap.objs.size + 1) vs ((arrOf st').map (·.2)) }) : wpAny (model prog w) A (call (.builtin "sorted") [.ref l]) Q E s := by
  refine Calls.call_function_entry kind_sorted plain_sorted entry_sorted (args_sorted1 _) ?_
  unfold Builtin.«sorted»
  refine wpAny_bind (m := checkCount "sorted" 1 1 _) (wpAny_pure (wpAny_bind (collect_exact l (.inr rfl) ho hc hd (wpAny_bind (wpAny_newList ?g)) (by rw [List.size_toArray]; exact hL))))
  case g =>
  have k1 : ∀ b o, s.heap.get? b = some o → ((collected s.heap vs.toArray).push (seqObj "list" vs.toArray 0)).get? b = some o := fun b o e => Heap.get?_push_of_some _ (collected_old e)
  have hoL : ((collected s.heap vs.toArray).push (seqObj "list" vs.toArray 0)).get? (s.heap.objs.size + 1) = some (seqObj "list" vs.toArray 0) := by
    rw [← collected_size (items := vs.toArray)]
    exact Heap.get?_push_size _ rfl
  show wpAny _ _ _ _ _ { s with heap := (collected s.heap vs.toArray).push (seqObj "list" vs.toArray 0) }
  rw [collected_size]
  refine wpAny_bind (wpAny_holding (wpAny_call_entry slot_list_sort ⟨_, hoL, rfl⟩ entry_list_sort (G.list_sort_tups hoL (ht _ k1) (hk _ k1) hL fun st' a1 a2 a3 => ⟨_, rfl, ?r⟩) (args_list_sort _)))
  case r => exact wpAny_pure ⟨_, rfl, h _ st' k1 (by rw [size_push', collected_size]) hoL a1 a2⟩
end
section
variable {X : Cx}
def rSortedN (K : PySem.W.Frag) : List V → Hp → VK → Prop := fun vs H Q => ∃ (a : Addr) (us : List V) (kf : V → Str × Int), vs = [.ref a] ∧ SqL K H a us ∧ (∀ u ∈ us, NameAt K H u (kf u)) ∧
  ∀ us' p, us'.Perm us → us'.Pairwise (fun x y => ltN (kf y) (kf x) = false) → H p = none → Q (.ref p) (upd H p (.lst us'))
theorem cr_sortedN : CallR X (.builtin "sorted") (rSortedN X.K) := by
  intro pins s σ H vs ws Q I r h
  obtain ⟨a, us, kf, rfl, hs, hx, q⟩ := h
  obtain ⟨its, rv, hl, hz⟩ := I.list hs
  obtain ⟨u, rfl, ru⟩ := vals1 r
  cases (show u = Value.ref a from ru)
  obtain ⟨e1, e2⟩ := refs_back rv fun x m => (hx x m).imp fun t z => z.1
  have look : ∀ v ∈ its, ∃ t o t1 t2 n, v = .ref t ∧ s.heap.get? t = some o ∧ o.cls = .type "tuple" ∧ o.data = .seq #[.str (kf (backV v)).1 t1, .int (kf (backV v)).2 t2] n := by
    intro v hv
    obtain ⟨t, rfl⟩ := e2 v hv
    obtain ⟨b, eb, hb⟩ := hx (.ref t) (by rw [e1]; exact List.mem_map.mpr ⟨_, hv, rfl⟩)
    cases eb
    obtain ⟨its2, r2, ⟨o, ho, hc, n, hd⟩, _⟩ := I.tuple hb
    obtain ⟨u1, u2, rfl, ⟨t1, rfl⟩, ⟨t2, rfl⟩⟩ := vals2 r2
    exact ⟨t, o, t1, t2, n, rfl, ho, hc, hd⟩
  let shape : Nat → Bool := fun i => decide (i = 0)
  obtain ⟨fs, ht⟩ : ∃ fs, TupsOf s.heap shape its fs := tups_of fun v hv => by
    obtain ⟨t, o, t1, t2, n, rfl, ho, hc, hd⟩ := look v hv
    exact ⟨_, t, o, _, n, rfl, ho, hc, hd, rfl, fun z => (by cases z), fun _ => ⟨_, _, rfl⟩⟩
  have key : ∀ v ∈ its, G.tupKeyC s.heap shape v = some (rawKey (kf (backV v))) := fun v hv => by
    obtain ⟨t, o, t1, t2, n, rfl, ho, hc, hd⟩ := look v hv
    unfold G.tupKeyC
    have it : G.isTupObj s.heap (.ref t) = true := by
      unfold G.isTupObj
      simp [ho, hc]
    rw [if_pos it]
    unfold tupKey
    simp only [ho, hd]
    rfl
  refine G.sorted_tups hl.isList ht (fun v hv => ⟨_, key v hv⟩) (by rw [← rv.length]; exact hz) fun st' hp hso _ => ?_
  have zz : (pairsOf its).toList = its.zip its := pairsOf_toList its
  have hpl : (arrOf st').toList.Perm (its.zip its) := by rw [← zz]; exact hp.toList
  have own : ∀ p ∈ (arrOf st').toList, p.1 = p.2 ∧ p.1 ∈ its := fun p hm => mem_zip_self (hpl.mem_iff.mp hm)
  have sz : (arrOf st').size = its.length := by
    have := hpl.length_eq
    rw [Array.length_toList, List.length_zip] at this
    omega
  have outp : ((arrOf st').toList.map (·.2)).Perm its := by
    have z := hpl.map (·.2)
    rw [List.map_snd_zip (Nat.le_refl _)] at z
    exact z
  have oute : ((arrOf st').map (·.2)).toList = (arrOf st').toList.map (·.2) := Array.toList_map
  have h3 : ∀ u ∈ (arrOf st').toList.map (·.2), ∃ a, u = Value.ref a := fun u hu => e2 u (outp.mem_iff.mp hu)
  obtain ⟨e, hn⟩ := sortedAll_at s.heap its ((arrOf st').map (·.2))
  have fresh : s.heap.objs.size ≤ s.heap.objs.size + 1 := Nat.le_succ _
  have lenO : ((arrOf st').toList.map (·.2)).length = us.length := by rw [outp.length_eq, ← rv.length]
  refine ⟨.ref (s.heap.objs.size + 1), upd H (s.heap.objs.size + 1) (.lst (((arrOf st').toList.map (·.2)).map backV)), I.laid (t' := s.toks) (fun b o z => sortedAll_old z) fresh ⟨?_, (arrOf st').toList.map (·.2), e, vals_back h3, ?_⟩, rfl, q _ _ ?_ ?_ (I.hok.fresh fresh)⟩
  · rw [List.length_map, lenO]
    exact hz
  · rw [hn, ← oute, Array.toArray_toList]
  · rw [e1]
    exact outp.map backV
  · rw [List.pairwise_iff_getElem]
    intro i j hi hj hij
    have hi' : i < (arrOf st').size := by
      rw [List.length_map, List.length_map, Array.length_toList] at hi
      exact hi
    have hj' : j < (arrOf st').size := by
      rw [List.length_map, List.length_map, Array.length_toList] at hj
      exact hj
    have kk : ∀ n (hn : n < (arrOf st').size), KK (G.tupKindC s.heap shape) (arrOf st') n = rawKey (kf (backV ((arrOf st')[n]).2)) := fun n hn => by
      have m : (arrOf st')[n] ∈ (arrOf st').toList := by
        rw [← Array.getElem_toList]
        exact List.getElem_mem _
      obtain ⟨o1, o2⟩ := own _ m
      unfold KK
      rw [Array.getElem?_eq_getElem hn]
      show (G.tupKeyC s.heap shape ((arrOf st')[n]).1).getD [] = _
      rw [key _ o2, ← o1]
      rfl
    have z := hso i j (Nat.le_of_lt hij) (by
      have : (pairsOf its).size = its.length := by rw [← Array.length_toList, zz, List.length_zip]; omega
      omega)
    rw [kk i hi', kk j hj'] at z
    have z' : (listOrd itemOrd).blt (rawKey (kf (backV ((arrOf st')[j]).2))) (rawKey (kf (backV ((arrOf st')[i]).2))) = false := z
    rw [raw_lt] at z'
    simp only [List.getElem_map, Array.getElem_toList]
    exact z'
theorem tups_ofA {P : Heap → Prop} {shape : Nat → Bool} : ∀ {vs : List Value}, (∀ v ∈ vs, ∃ f, ∀ h, P h → TupOf h shape v f) → ∃ fs, ∀ h, P h → TupsOf h shape vs fs
  | [], _ => ⟨[], fun _ _ => .nil⟩
  | v :: vs, k => by
    obtain ⟨f, hf⟩ := k v List.mem_cons_self
    obtain ⟨fs, hfs⟩ := tups_ofA fun u hu => k u (List.mem_cons_of_mem _ hu)
    exact ⟨f :: fs, fun h p => .cons (hf h p) (hfs h p)⟩
def rSortedTN (K : PySem.W.Frag) : List V → Hp → VK → Prop := fun vs H Q => ∃ (a : Addr) (us : List V) (kf : V → Str × Int), vs = [.ref a] ∧ SqT K H a us ∧ (∀ u ∈ us, NameAt K H u (kf u)) ∧
  ∀ us' p, us'.Perm us → us'.Pairwise (fun x y => ltN (kf y) (kf x) = false) → H p = none → Q (.ref p) (upd H p (.lst us'))
theorem cr_sortedTN : CallR X (.builtin "sorted") (rSortedTN X.K) := by
  intro pins s σ H vs ws Q I r h
  obtain ⟨a, us, kf, rfl, hs, hx, q⟩ := h
  obtain ⟨its, rv, ⟨o0, ho0, hc0, n0, hd0⟩, hz⟩ := I.tuple hs
  obtain ⟨u, rfl, ru⟩ := vals1 r
  cases (show u = Value.ref a from ru)
  obtain ⟨e1, e2⟩ := refs_back rv fun x m => (hx x m).imp fun t z => z.1
  have look : ∀ v ∈ its, ∃ t o t1 t2 n, v = .ref t ∧ s.heap.get? t = some o ∧ o.cls = .type "tuple" ∧ o.data = .seq #[.str (kf (backV v)).1 t1, .int (kf (backV v)).2 t2] n := by
    intro v hv
    obtain ⟨t, rfl⟩ := e2 v hv
    obtain ⟨b, eb, hb⟩ := hx (.ref t) (by rw [e1]; exact List.mem_map.mpr ⟨_, hv, rfl⟩)
    cases eb
    obtain ⟨its2, r2, ⟨o, ho, hc, n, hd⟩, _⟩ := I.tuple hb
    obtain ⟨u1, u2, rfl, ⟨t1, rfl⟩, ⟨t2, rfl⟩⟩ := vals2 r2
    exact ⟨t, o, t1, t2, n, rfl, ho, hc, hd⟩
  let shape : Nat → Bool := fun i => decide (i = 0)
  have look2 : ∀ h2 : Heap, (∀ b o, s.heap.get? b = some o → h2.get? b = some o) → ∀ v ∈ its, ∃ t o t1 t2 n, v = .ref t ∧ h2.get? t = some o ∧ o.cls = .type "tuple" ∧ o.data = .seq #[.str (kf (backV v)).1 t1, .int (kf (backV v)).2 t2] n := fun h2 k v hv => by
    obtain ⟨t, o, t1, t2, n, e, ho, hc, hd⟩ := look v hv
    exact ⟨t, o, t1, t2, n, e, k _ _ ho, hc, hd⟩
  have form : ∃ fs, ∀ h2 : Heap, (∀ b o, s.heap.get? b = some o → h2.get? b = some o) → TupsOf h2 shape its fs := by
    have one : ∀ v ∈ its, ∃ f, ∀ h2 : Heap, (∀ b o, s.heap.get? b = some o → h2.get? b = some o) → TupOf h2 shape v f := fun v hv => by
      obtain ⟨t, o, t1, t2, n, rfl, ho, hc, hd⟩ := look v hv
      exact ⟨_, fun h2 k => ⟨t, o, _, n, rfl, k _ _ ho, hc, hd, rfl, fun z => (by cases z), fun _ => ⟨_, _, rfl⟩⟩⟩
    exact tups_ofA one
  obtain ⟨fs, ht⟩ := form
  have key : ∀ h2 : Heap, (∀ b o, s.heap.get? b = some o → h2.get? b = some o) → ∀ v ∈ its, G.tupKeyC h2 shape v = some (rawKey (kf (backV v))) := fun h2 k v hv => by
    obtain ⟨t, o, t1, t2, n, rfl, ho, hc, hd⟩ := look2 h2 k v hv
    unfold G.tupKeyC
    have it : G.isTupObj h2 (.ref t) = true := by
      unfold G.isTupObj
      simp [ho, hc]
    rw [if_pos it]
    unfold tupKey
    simp only [ho, hd]
    rfl
  refine sorted_tupsT ho0 hc0 hd0 ht (fun h2 k v hv => ⟨_, key h2 k v hv⟩) (by rw [← rv.length]; exact hz) fun h1 st' k1 z1 l1 hp hso => ?_
  have zz : (pairsOf its).toList = its.zip its := pairsOf_toList its
  have hpl : (arrOf st').toList.Perm (its.zip its) := by rw [← zz]; exact hp.toList
  have own : ∀ p ∈ (arrOf st').toList, p.1 = p.2 ∧ p.1 ∈ its := fun p hm => mem_zip_self (hpl.mem_iff.mp hm)
  have sz : (arrOf st').size = its.length := by
    have := hpl.length_eq
    rw [Array.length_toList, List.length_zip] at this
    omega
  have outp : ((arrOf st').toList.map (·.2)).Perm its := by
    have z := hpl.map (·.2)
    rw [List.map_snd_zip (Nat.le_refl _)] at z
    exact z
  have oute : ((arrOf st').map (·.2)).toList = (arrOf st').toList.map (·.2) := Array.toList_map
  have h3 : ∀ u ∈ (arrOf st').toList.map (·.2), ∃ a, u = Value.ref a := fun u hu => e2 u (outp.mem_iff.mp hu)
  obtain ⟨e, hn⟩ := sortedHeap_at (vs := its) (out := (arrOf st').map (·.2)) l1
  have fresh : s.heap.objs.size ≤ s.heap.objs.size + 1 := Nat.le_succ _
  have lenO : ((arrOf st').toList.map (·.2)).length = us.length := by rw [outp.length_eq, ← rv.length]
  refine ⟨.ref (s.heap.objs.size + 1), upd H (s.heap.objs.size + 1) (.lst (((arrOf st').toList.map (·.2)).map backV)), I.laid (t' := s.toks) (fun b o z => (sortedHeap_old (Nat.ne_of_lt (Nat.lt_succ_of_lt (Heap.lt_size z))) (Heap.lt_size (k1 _ _ z))).trans (k1 _ _ z)) fresh ⟨?_, (arrOf st').toList.map (·.2), e, vals_back h3, ?_⟩, rfl, q _ _ ?_ ?_ (I.hok.fresh fresh)⟩
  · rw [List.length_map, lenO]
    exact hz
  · rw [hn, ← oute, Array.toArray_toList]
  · rw [e1]
    exact outp.map backV
  · rw [List.pairwise_iff_getElem]
    intro i j hi hj hij
    have hi' : i < (arrOf st').size := by
      rw [List.length_map, List.length_map, Array.length_toList] at hi
      exact hi
    have hj' : j < (arrOf st').size := by
      rw [List.length_map, List.length_map, Array.length_toList] at hj
      exact hj
    have kk : ∀ n (hn : n < (arrOf st').size), KK (G.tupKindC h1 shape) (arrOf st') n = rawKey (kf (backV ((arrOf st')[n]).2)) := fun n hn => by
      have m : (arrOf st')[n] ∈ (arrOf st').toList := by
        rw [← Array.getElem_toList]
        exact List.getElem_mem _
      obtain ⟨o1, o2⟩ := own _ m
      unfold KK
      rw [Array.getElem?_eq_getElem hn]
      show (G.tupKeyC h1 shape ((arrOf st')[n]).1).getD [] = _
      rw [key h1 k1 _ o2, ← o1]
      rfl
    have z := hso i j (Nat.le_of_lt hij) (by
      have : (pairsOf its).size = its.length := by rw [← Array.length_toList, zz, List.length_zip]; omega
      omega)
    rw [kk i hi', kk j hj'] at z
    have z' : (listOrd itemOrd).blt (rawKey (kf (backV ((arrOf st')[j]).2))) (rawKey (kf (backV ((arrOf st')[i]).2))) = false := z
    rw [raw_lt] at z'
    simp only [List.getElem_map, Array.getElem_toList]
    exact z'
/-- the same, by pairs -/
def rSortedTP (K : PySem.W.Frag) : List V → Hp → VK → Prop := fun vs H Q => ∃ (a : Addr) (us : List V) (ns : List (Str × Int)), vs = [.ref a] ∧ SqT K H a us ∧ Paired (NameAt K H) us ns ∧
  ∀ us' ns' p, Paired (NameAt K H) us' ns' → ns'.Perm ns → ns'.Pairwise (fun x y => ltN y x = false) → H p = none → Q (.ref p) (upd H p (.lst us'))
open Classical in
noncomputable def nameOf (K : PySem.W.Frag) (H : Hp) (v : V) : Str × Int := if h : ∃ n, NameAt K H v n then choose h else ("", 0)
theorem nameOf_at {K : PySem.W.Frag} {H : Hp} {v : V} {n : Str × Int} (h : NameAt K H v n) : NameAt K H v (nameOf K H v) := by
  unfold nameOf
  rw [dif_pos ⟨n, h⟩]
  exact Classical.choose_spec (⟨n, h⟩ : ∃ n, NameAt K H v n)
theorem cr_sortedTP : CallR X (.builtin "sorted") (rSortedTP X.K) := by
  intro pins s σ H vs ws Q I r h
  obtain ⟨a, us, ns, rfl, hs, hP, q⟩ := h
  have one : ∀ {v : V} {n : Str × Int}, NameAt X.K H v n → nameOf X.K H v = n := fun {v n} h => by
    obtain ⟨b, rfl, h1⟩ := h
    obtain ⟨b', e, h2⟩ := nameOf_at (⟨b, rfl, h1⟩ : NameAt X.K H (.ref b) n)
    cases e
    have z := I.tuple_inj h2 h1
    generalize nameOf X.K H (.ref b) = m at z
    obtain ⟨m1, m2⟩ := m
    obtain ⟨n1, n2⟩ := n
    have z' : [V.str m1, V.int m2] = [V.str n1, V.int n2] := z
    simp only [List.cons.injEq, V.str.injEq, V.int.injEq, and_true] at z'
    rw [z'.1, z'.2]
  have mp : ∀ {us : List V} {ns : List (Str × Int)}, Paired (NameAt X.K H) us ns → us.map (nameOf X.K H) = ns := by
    intro us ns h
    induction h with
    | nil => rfl
    | cons a _ ih => rw [List.map_cons, one a, ih]
  have back : ∀ {us : List V}, (∀ u ∈ us, NameAt X.K H u (nameOf X.K H u)) → Paired (NameAt X.K H) us (us.map (nameOf X.K H)) := by
    intro us
    induction us with
    | nil => exact fun _ => .nil
    | cons u us ih => exact fun h => .cons (h u List.mem_cons_self) (ih fun x hx => h x (List.mem_cons_of_mem _ hx))
  have all : ∀ {us : List V} {ns : List (Str × Int)}, Paired (NameAt X.K H) us ns → ∀ u ∈ us, NameAt X.K H u (nameOf X.K H u) := by
    intro us ns h
    induction h with
    | nil => exact fun _ z => nomatch z
    | cons a _ ih =>
      intro u hu
      rcases List.mem_cons.mp hu with rfl | hu
      · exact nameOf_at a
      · exact ih u hu
  refine cr_sortedTN pins s σ H [.ref a] ws Q I r ⟨a, us, nameOf X.K H, rfl, hs, all hP, fun us' p hp ho np => ?_⟩
  refine q us' (us'.map (nameOf X.K H)) p (back fun u hu => all hP u (hp.mem_iff.mp hu)) ?_ (List.pairwise_map.mpr ho) np
  rw [← mp hP]
  exact hp.map _
end
end Br

set_option Elab.async false
set_option linter.all false
set_option maxRecDepth 100000
set_option maxHeartbeats 4000000
/-! Expressions that make data: whatever objects they lay, the value is the data d, and what stood before stands. -/
namespace Br
open PySem PySem.Spec PyProof.Rows L2
theorem mk_new {H : Hp} {p : Addr} {o : HO} (h : H p = none) : Same H (upd H p o) := fun b x e => (upd_ne (ne_of_none e h)).trans e
theorem mk_seqT {K : PySem.W.Frag} {H H' : Hp} {a : Addr} {xs : List V} (e : Same H H') (h : SqT K H a xs) : SqT K H' a xs := h.imp (fun r => r.imp (e _ _) fun ⟨o, q⟩ => ⟨o, e _ _ q⟩) id
mutual
theorem mk_dp {K : PySem.W.Frag} {H H' : Hp} (e : Same H H') : ∀ (d : PyData) (v : V), Dp K H v d → Dp K H' v d
  | .none, _, .non => .non
  | .bool _, _, .bl b => .bl b
  | .int _, _, .int i => .int i
  | .str _, _, .str x => .str x
  | .list ds, _, .lst s a => .lst (e.seq s) (mk_dps e ds _ a)
  | .tuple ds, _, .tup s a => .tup (mk_seqT e s) (mk_dps e ds _ a)
theorem mk_dps {K : PySem.W.Frag} {H H' : Hp} (e : Same H H') : ∀ (ds : List PyData) (vs : List V), DpAll K H vs ds → DpAll K H' vs ds
  | [], _, .nil => .nil
  | d :: ds, _, .cons x r => .cons (mk_dp e d _ x) (mk_dps e ds _ r)
end
theorem mk_len {K : PySem.W.Frag} {H : Hp} : ∀ {xs : List V} {ds : List PyData}, DpAll K H xs ds → xs.length = ds.length
  | _, _, .nil => rfl
  | _, _, .cons _ r => congrArg (· + 1) (mk_len r)
/-- t makes the data d, from any heap that has what H0 has -/
def Mk (K : PySem.W.Frag) (σ : L2.St) (H0 : Hp) (t : TE) (d : PyData) : Prop := ∀ (H : Hp) (Q : VK), Same H0 H → (∀ v H', Same H H' → Dp K H' v d → Q v H') → t σ H Q
def MkA (K : PySem.W.Frag) (σ : L2.St) (H0 : Hp) (t : TA) (ds : List PyData) : Prop := ∀ (H : Hp) (Q : List V → Hp → Prop), Same H0 H → (∀ vs H', Same H H' → DpAll K H' vs ds → Q vs H') → t σ H Q
section
variable {K : PySem.W.Frag} {σ : L2.St} {H0 : Hp}
theorem Mk.eq {t : TE} {d e : PyData} (h : Mk K σ H0 t d) (q : d = e) : Mk K σ H0 t e := q ▸ h
theorem mk_var {i : Nat} {v : V} {d : PyData} (h : σ[i]? = some (some v)) (hd : Dp K H0 v d) : Mk K σ H0 (tVar i) d := fun H Q s q => ⟨v, h, q v H (Same.refl H) (mk_dp s d v hd)⟩
theorem mk_int (i : Int) : Mk K σ H0 (tC (.int i)) (.int i) := fun H Q _ q => q _ H (Same.refl H) (.int i)
theorem mk_str (z : Str) : Mk K σ H0 (tC (.str z)) (.str z) := fun H Q _ q => q _ H (Same.refl H) (.str z)
theorem mk_bl (b : Bool) : Mk K σ H0 (tC (.bl b)) (.bool b) := fun H Q _ q => q _ H (Same.refl H) (.bl b)
theorem mk_non : Mk K σ H0 (tC .non) .none := fun H Q _ q => q _ H (Same.refl H) .non
theorem mka_nil : MkA K σ H0 tNil [] := fun H Q _ q => q [] H (Same.refl H) .nil
theorem mka_cons {t : TE} {ts : TA} {d : PyData} {ds : List PyData} (h : Mk K σ H0 t d) (r : MkA K σ H0 ts ds) : MkA K σ H0 (tCons t ts) (d :: ds) :=
  fun H Q s q => h H _ s fun v H1 s1 dv => r H1 _ (s.trans s1) fun vs H2 s2 dvs => q _ H2 (s1.trans s2) (.cons (mk_dp s2 d v dv) dvs)
theorem mk_tup {t : TA} {ds : List PyData} (h : MkA K σ H0 t ds) (hl : ds.length ≤ 1000) : Mk K σ H0 (tTup t) (.tuple ds) :=
  fun H Q s q => h H _ s fun vs H1 s1 dvs => ⟨by rw [mk_len dvs]; exact Nat.le_of_lt (Nat.lt_of_le_of_lt hl (by decide)), fun p np => q _ _ (s1.trans (mk_new np)) (.tup (SqT.of upd_same) (mk_dps (mk_new np) ds vs dvs))⟩
theorem mk_lst {t : TA} {ds : List PyData} (h : MkA K σ H0 t ds) (hl : ds.length ≤ 1000) : Mk K σ H0 (tLst t) (.list ds) :=
  fun H Q s q => h H _ s fun vs H1 s1 dvs => ⟨by rw [mk_len dvs]; exact Nat.le_of_lt (Nat.lt_of_le_of_lt hl (by decide)), fun p np => q _ _ (s1.trans (mk_new np)) (.lst (SqL.of upd_same) (mk_dps (mk_new np) ds vs dvs))⟩
theorem mk_neg {t : TE} {i : Int} (h : Mk K σ H0 t (.int i)) : Mk K σ H0 (tUn (rU fun i => .int (-i)) t) (.int (-i)) :=
  fun H Q s q => h H _ s fun v H1 s1 dv => by
    cases dv
    exact ⟨i, rfl, q _ H1 s1 (.int _)⟩
/-- + of two texts -/
theorem mk_adds {t u : TE} {x y : Str} (h : Mk K σ H0 t (.str x)) (k : Mk K σ H0 u (.str y)) (hl : x.length + y.length ≤ 1000) :
    Mk K σ H0 (tOp (fun x y H Q => ∃ i j, x = .str i ∧ y = .str j ∧ i.length + j.length ≤ sizeLine ∧ Q (.str (i ++ j)) H) t u) (.str (x ++ y)) :=
  fun H Q s q => h H _ s fun v H1 s1 dv => k H1 _ (s.trans s1) fun v2 H2 s2 dv2 => by
    cases dv
    cases dv2
    exact ⟨x, y, rfl, rfl, Nat.le_of_lt (Nat.lt_of_le_of_lt hl (by decide)), q _ H2 (s1.trans s2) (.str _)⟩
/-- text * number -/
theorem mk_muls {t u : TE} {z : Str} {n : Int} (h : Mk K σ H0 t (.str z)) (k : Mk K σ H0 u (.int n)) (h0 : 0 ≤ n) (h1 : n ≤ 1000) (hz : z.length ≤ 1000) (hl : (repS z n).length ≤ sizeLine) :
    Mk K σ H0 (tOp (fun x y H Q => ∃ (z : Str) (n : Int), x = .str z ∧ y = .int n ∧ 0 ≤ n ∧ n ≤ 1000 ∧ z.length ≤ 1000 ∧ (repS z n).length ≤ sizeLine ∧ Q (.str (repS z n)) H) t u) (.str (repS z n)) :=
  fun H Q s q => h H _ s fun v H1 s1 dv => k H1 _ (s.trans s1) fun v2 H2 s2 dv2 => by
    cases dv
    cases dv2
    exact ⟨z, n, rfl, rfl, h0, h1, hz, hl, q _ H2 (s1.trans s2) (.str _)⟩
/-- + of two lists -/
theorem mk_cat {t u : TE} {xs ys : List PyData} (h : ∀ (H : Hp) (Q : VK), Same H0 H → (∀ a vs H', Same H H' → H' a = some (.lst vs) → DpAll K H' vs xs → Q (.ref a) H') → t σ H Q)
    (k : ∀ (H : Hp) (Q : VK), Same H0 H → (∀ a vs H', Same H H' → H' a = some (.lst vs) → DpAll K H' vs ys → Q (.ref a) H') → u σ H Q) (hl : xs.length + ys.length ≤ 1000) :
    ∀ (H : Hp) (Q : VK), Same H0 H → (∀ a vs H', Same H H' → H' a = some (.lst vs) → DpAll K H' vs (xs ++ ys) → Q (.ref a) H') → (tOp rCat t u) σ H Q :=
  fun H Q s q => h H _ s fun a vs H1 s1 ha dvs => k H1 _ (s.trans s1) fun b ws H2 s2 hb dws => by
    have app : ∀ {vs ws : List V} {xs ys : List PyData} {H : Hp}, DpAll K H vs xs → DpAll K H ws ys → DpAll K H (vs ++ ws) (xs ++ ys) := by
      intro vs ws xs
      induction xs generalizing vs with
      | nil =>
        intro ys H a b
        cases a
        exact b
      | cons x xs ih =>
        intro ys H a b
        cases a with
        | cons a1 a2 => exact .cons a1 (ih a2 b)
    refine ⟨a, b, vs, ws, rfl, rfl, s2 _ _ ha, hb, by rw [mk_len dvs, mk_len dws]; exact Nat.le_of_lt (Nat.lt_of_le_of_lt hl (by decide)), fun p np => ?_⟩
    exact q p _ _ ((s1.trans s2).trans (mk_new np)) upd_same (mk_dps (mk_new np) _ _ (app (mk_dps s2 _ _ dvs) dws))
/-- f(..), by its promise -/
theorem mk_call {sp : Sp} {E : XK} {ta : TA} {ds : List PyData} {d : PyData} (h : MkA K σ H0 ta ds) (hsp : ∀ vs H, Same H0 H → DpAll K H vs ds → ∀ Q : VK, (∀ v H', Same H H' → Dp K H' v d → Q v H') → sp (vs ++ []) H Q E) : Mk K σ H0 (tCall sp [] E ta) d :=
  fun H Q s q => h H _ s fun vs H1 s1 dvs => hsp vs H1 (s.trans s1) dvs Q fun v H2 s2 dv => q v H2 (s1.trans s2) dv
theorem dps_take {H : Hp} : ∀ {xs : List V} {ds : List PyData} (n : Nat), DpAll K H xs ds → DpAll K H (xs.take n) (ds.take n)
  | _, _, 0, _ => .nil
  | _, _, _ + 1, .nil => .nil
  | _, _, n + 1, .cons a r => .cons a (dps_take n r)
theorem dps_drop {H : Hp} : ∀ {xs : List V} {ds : List PyData} (n : Nat), DpAll K H xs ds → DpAll K H (xs.drop n) (ds.drop n)
  | _, _, 0, r => r
  | _, _, _ + 1, .nil => .nil
  | _, _, n + 1, .cons _ r => dps_drop n r
theorem dps_app {H : Hp} : ∀ {vs ws : List V} {xs ys : List PyData}, DpAll K H vs xs → DpAll K H ws ys → DpAll K H (vs ++ ws) (xs ++ ys)
  | _, _, _, _, .nil, b => b
  | _, _, _, _, .cons a r, b => .cons a (dps_app r b)
theorem dps_rev {H : Hp} : ∀ {vs : List V} {xs : List PyData}, DpAll K H vs xs → DpAll K H vs.reverse xs.reverse
  | _, _, .nil => .nil
  | _, _, .cons a r => by
    rw [List.reverse_cons, List.reverse_cons]
    exact dps_app (dps_rev r) (.cons a .nil)
theorem tup_inv {H : Hp} {v : V} {ds : List PyData} (h : Dp K H v (.tuple ds)) : ∃ a us, v = .ref a ∧ SqT K H a us ∧ DpAll K H us ds := by
  cases h with
  | tup s a => exact ⟨_, _, rfl, s, a⟩
/-- t[::-1] -/
theorem mk_rev {t : TE} {ds : List PyData} (h : Mk K σ H0 t (.tuple ds)) : Mk K σ H0 (tRevT K t) (.tuple ds.reverse) :=
  fun H Q s q => h H _ s fun v H1 s1 dv => by
    obtain ⟨a, us, rfl, hs, dus⟩ := tup_inv dv
    exact ⟨a, us, rfl, hs, fun p np => q _ _ (s1.trans (mk_new np)) (.tup (SqT.of upd_same) (mk_dps (mk_new np) _ _ (dps_rev dus)))⟩
/-- t[n:], t[:n] -/
theorem mk_from {t : TE} {tl : TO} {ds : List PyData} {n : Nat} (h : Mk K σ H0 t (.tuple ds)) (hn : n ≤ ds.length) (hl : ∀ H (Q : Option Int → Hp → Prop), Q (some (n : Int)) H → tl σ H Q) : Mk K σ H0 (tSl (rSlA K) t tl tNoPart) (.tuple (ds.drop n)) :=
  fun H Q s q => h H _ s fun v H1 s1 dv => hl H1 _ (by
    obtain ⟨a, us, rfl, hs, dus⟩ := tup_inv dv
    have len := mk_len dus
    refine ⟨a, us, rfl, hs, fun wh => ?_, fun _ p np => ?_⟩
    · have z : min n us.length = 0 := (HT.sIx_nat us.length 0 n).symm.trans wh.1
      have e : n = 0 ∨ us.length = 0 := by omega
      rcases e with e | e
      · subst e
        exact q _ H1 s1 dv
      · have e2 : ds = [] := List.eq_nil_of_length_eq_zero (by omega)
        subst e2
        exact q _ H1 s1 (by rw [List.drop_nil]; exact dv)
    · have ec : cutV us (some (n : Int)) none = us.drop n := by
        unfold cutV
        rw [HT.sIx_none, HT.sIx_nat, Nat.min_eq_left (by omega)]
        exact List.take_of_length_le (by rw [List.length_drop]; omega)
      rw [ec]
      exact q _ _ (s1.trans (mk_new np)) (.tup (SqT.of upd_same) (mk_dps (mk_new np) _ _ (dps_drop n dus))))
theorem mk_to {t : TE} {tl : TO} {ds : List PyData} {n : Nat} (h : Mk K σ H0 t (.tuple ds)) (hn : n ≤ ds.length) (hl : ∀ H (Q : Option Int → Hp → Prop), Q (some (n : Int)) H → tl σ H Q) : Mk K σ H0 (tSl (rSlA K) t tNoPart tl) (.tuple (ds.take n)) :=
  fun H Q s q => h H _ s fun v H1 s1 dv => hl H1 _ (by
    obtain ⟨a, us, rfl, hs, dus⟩ := tup_inv dv
    have len := mk_len dus
    refine ⟨a, us, rfl, hs, fun wh => ?_, fun _ p np => ?_⟩
    · have z : min n us.length = us.length := (HT.sIx_nat us.length us.length n).symm.trans wh.2
      exact q _ H1 s1 (by rw [List.take_of_length_le (by omega)]; exact dv)
    · have ec : cutV us none (some (n : Int)) = us.take n := by
        unfold cutV
        rw [HT.sIx_none, HT.sIx_nat, Nat.min_eq_left (by omega)]
        rfl
      rw [ec]
      exact q _ _ (s1.trans (mk_new np)) (.tup (SqT.of upd_same) (mk_dps (mk_new np) _ _ (dps_take n dus))))
/-- + of two tuples -/
theorem mk_catT {t u : TE} {xs ys : List PyData} (h : Mk K σ H0 t (.tuple xs)) (k : Mk K σ H0 u (.tuple ys)) (hl : xs.length + ys.length ≤ 1000) : Mk K σ H0 (tOp (rCatA K) t u) (.tuple (xs ++ ys)) :=
  fun H Q s q => h H _ s fun v H1 s1 dv => k H1 _ (s.trans s1) fun v2 H2 s2 dv2 => by
    have dv' := mk_dp s2 _ _ dv
    obtain ⟨a, us, rfl, hs, dus⟩ := tup_inv dv'
    obtain ⟨b, ws, rfl, ht, dws⟩ := tup_inv dv2
    have l1 := mk_len dus
    have l2 := mk_len dws
    refine ⟨a, b, us, ws, rfl, rfl, hs, ht, Nat.le_of_lt (Nat.lt_of_le_of_lt (show us.length + ws.length ≤ 1000 by omega) (by decide)), fun e => ?_, fun _ e => ?_, fun _ _ p np => ?_⟩
    · have e2 : xs = [] := List.eq_nil_of_length_eq_zero (by rw [← l1, e]; rfl)
      subst e2
      exact q _ H2 (s1.trans s2) dv2
    · have e2 : ys = [] := List.eq_nil_of_length_eq_zero (by rw [← l2, e]; rfl)
      subst e2
      exact q _ H2 (s1.trans s2) (by rw [List.append_nil]; exact dv')
    · exact q _ _ ((s1.trans s2).trans (mk_new np)) (.tup (SqT.of upd_same) (mk_dps (mk_new np) _ _ (dps_app dus dws)))
theorem dps_rep {H : Hp} {vs : List V} {xs : List PyData} (h : DpAll K H vs xs) : ∀ m : Nat, DpAll K H (List.replicate m vs).flatten (List.replicate m xs).flatten
  | 0 => .nil
  | m + 1 => by
    rw [List.replicate_succ, List.replicate_succ, List.flatten_cons, List.flatten_cons]
    exact dps_app h (dps_rep h m)
/-- tuple * number -/
theorem mk_repT {t u : TE} {ds : List PyData} {n : Int} (h : Mk K σ H0 t (.tuple ds)) (k : Mk K σ H0 u (.int n)) (hd : ds ≠ []) (h2 : 2 ≤ n) (h3 : n ≤ 1000) (hl : ds.length ≤ 1000) : Mk K σ H0 (tOp (rRepT K) t u) (.tuple (List.replicate n.toNat ds).flatten) :=
  fun H Q s q => h H _ s fun v H1 s1 dv => k H1 _ (s.trans s1) fun v2 H2 s2 dv2 => by
    have dv' := mk_dp s2 _ _ dv
    obtain ⟨a, us, rfl, hs, dus⟩ := tup_inv dv'
    cases dv2
    have l1 := mk_len dus
    refine ⟨a, n, us, rfl, rfl, hs, fun e => hd ?_, h2, h3, by omega, fun p np => ?_⟩
    · refine List.eq_nil_of_length_eq_zero ?_
      rw [← l1, e]
      rfl
    · exact q _ _ ((s1.trans s2).trans (mk_new np)) (.tup (SqT.of upd_same) (mk_dps (mk_new np) _ _ (dps_rep dus _)))
/-- a builtin, by its rule -/
theorem mk_cb {r : List V → Hp → VK → Prop} {ta : TA} {ds : List PyData} {d : PyData} (h : MkA K σ H0 ta ds) (hr : ∀ vs H, Same H0 H → DpAll K H vs ds → ∀ Q : VK, (∀ v H', Same H H' → Dp K H' v d → Q v H') → r vs H Q) : Mk K σ H0 (tCB r ta) d :=
  fun H Q s q => h H _ s fun vs H1 s1 dvs => hr vs H1 (s.trans s1) dvs Q fun v H2 s2 dv => q v H2 (s1.trans s2) dv
/-- list(t), t a tuple -/
theorem mk_listof {ta : TA} {ds : List PyData} (h : MkA K σ H0 ta [.tuple ds]) : Mk K σ H0 (tCB (fun xs H Q => ∃ p ys, xs = [.ref p] ∧ (SqL K H p ys ∨ SqT K H p ys) ∧ ∀ l, H l = none → Q (.ref l) (upd H l (.lst ys))) ta) (.list ds) :=
  mk_cb h fun vs H _ d Q q => by
    cases d with
    | cons a r =>
      cases r
      obtain ⟨p, us, rfl, hs, dus⟩ := tup_inv a
      exact ⟨p, us, rfl, .inr hs, fun l nl => q _ _ (mk_new nl) (.lst (SqL.of upd_same) (mk_dps (mk_new nl) _ _ dus))⟩
/-- tuple(l), l a list -/
theorem mk_tupof {ta : TA} {ds : List PyData} (h : MkA K σ H0 ta [.list ds]) : Mk K σ H0 (tCB (fun xs H Q => ∃ p ys, xs = [.ref p] ∧ ((SqL K H p ys ∧ ∀ l, H l = none → Q (.ref l) (upd H l (.tup ys))) ∨ (SqT K H p ys ∧ Q (.ref p) H))) ta) (.tuple ds) :=
  mk_cb h fun vs H _ d Q q => by
    cases d with
    | cons a r =>
      cases r
      cases a with
      | lst s a =>
        exact ⟨_, _, rfl, .inl ⟨s, fun l nl => q _ _ (mk_new nl) (.tup (SqT.of upd_same) (mk_dps (mk_new nl) _ _ a))⟩⟩
end
end Br

set_option Elab.async false
set_option linter.all false
set_option maxRecDepth 100000
set_option maxHeartbeats 4000000
/-! t <= u of names; what isascii, isalpha, islower, isprintable tell; partition by one sign. -/
namespace Br
open PySem PySem.Spec PyProof.Rows L2
def rLeN (K : PySem.W.Frag) : R2 := fun x y H Q => ∃ (a b : Addr) (n m : Str × Int), x = .ref a ∧ y = .ref b ∧ SqT K H a ((nkeys n).map kV) ∧ SqT K H b ((nkeys m).map kV) ∧ Q (.bl (!ltN m n)) H
theorem le_two (n m : Str × Int) : Ob.lexAt (fun j => if j = 0 then decide (n.1 = m.1) else decide (n.2 = m.2)) (fun j => if j = 0 then !decide (m.1.cps.toList < n.1.cps.toList) else decide (n.2 ≤ m.2)) (decide (2 ≤ 2)) 0 (min 2 2) = !ltN m n := by
  obtain ⟨x, i⟩ := n
  obtain ⟨y, j⟩ := m
  show (if decide (x = y) = true then (if decide (i = j) = true then true else decide (i ≤ j)) else !decide (y.cps.toList < x.cps.toList)) = !(if (Sum.inr y : Key) = .inr x then (if (Sum.inl j : Key) = .inl i then false else decide (j < i)) else decide (y.cps.toList < x.cps.toList))
  by_cases h : x = y
  · subst h
    rw [if_pos (decide_eq_true rfl), if_pos rfl]
    by_cases k : i = j
    · subst k
      rw [if_pos (decide_eq_true rfl), if_pos rfl]
      rfl
    · rw [if_neg (by rw [decide_eq_false k]; exact Bool.false_ne_true), if_neg (fun z => k (Sum.inl.inj z).symm)]
      by_cases l : i ≤ j
      · rw [decide_eq_true l, decide_eq_false (by omega)]; rfl
      · rw [decide_eq_false l, decide_eq_true (by omega)]; rfl
  · rw [if_neg (by rw [decide_eq_false h]; exact Bool.false_ne_true), if_neg (fun z => h (Sum.inr.inj z).symm)]
section
variable {X : Cx}
theorem op_leN0 (hu : X.A.units < cLine) : OpR X (compareOp .LtE) (rLeN X.K) := by
  intro pins s σ H x y v u Q I rx ry h
  obtain ⟨a, b, n, m, rfl, rfl, ha, hb, q⟩ := h
  cases rx
  cases ry
  obtain ⟨its, r1, p1, _⟩ := I.tuple ha
  obtain ⟨its2, r2, p2, _⟩ := I.tuple hb
  replace r1 : Vals [V.str n.1, V.int n.2] its := r1
  replace r2 : Vals [V.str m.1, V.int m.2] its2 := r2
  cases r1 with
  | cons c1 r1 =>
  cases r1 with
  | cons c2 r1 =>
  cases r1
  cases r2 with
  | cons d1 r2 =>
  cases r2 with
  | cons d2 r2 =>
  cases r2
  obtain ⟨t1, rfl⟩ := c1
  obtain ⟨t2, rfl⟩ := c2
  obtain ⟨u1, rfl⟩ := d1
  obtain ⟨u2, rfl⟩ := d2
  have R := Ob.RcOp.tuples_le (A := X.A) (s := s) (e := fun j => if j = 0 then decide (n.1 = m.1) else decide (n.2 = m.2)) (r := fun j => if j = 0 then !decide (m.1.cps.toList < n.1.cps.toList) else decide (n.2 ≤ m.2)) p1 p2 hu
    (fun j h1 h2 => by
      match j, h1 with
      | 0, _ => exact fun prog w E Q h => wpAny_eqBool_str h
      | 1, _ =>
        have z : (n.2 == m.2) = decide (n.2 = m.2) := by
          by_cases q : n.2 = m.2
          · rw [decide_eq_true q]; exact beq_iff_eq.mpr q
          · rw [decide_eq_false q]; exact beq_eq_false_iff_ne.mpr q
        show SeqAt.EqAt X.A.in1 s _ _ (decide (n.2 = m.2))
        rw [← z]
        exact SeqAt.EqAt.int_int _ _ _ _
      | j + 2, h1 => exact absurd h1 (by simp))
    (fun j h1 h2 _ => by
      match j, h1 with
      | 0, _ => exact fun _ _ _ _ h => PySem.P.le_str h
      | 1, _ => exact Ob.RcOp.le_int _ _ _ _
      | j + 2, h1 => exact absurd h1 (by simp))
  have z : wpAny (model X.prog X.w) X.A (compareOp .LtE (.ref a) (.ref b)) (EP X pins σ Q) X.xe s := R X.prog X.w X.xe (EP X pins σ Q) (by
    show EP X pins σ Q (.bool (Ob.lexAt _ _ (decide (2 ≤ 2)) 0 (min 2 2))) s
    rw [le_two]
    exact ⟨.bl _, H, I, rfl, q⟩)
  exact z
theorem op_leN (K : PySem.W.Frag) (hu : X.A.units < cLine) (hK : X.K = K := by rfl) : OpR X (compareOp .LtE) (rLeN K) := by
  subst hK
  exact op_leN0 hu
end
/-! ### texts -/
def letC (c : Nat) : Bool := decide (97 ≤ c) && decide (c ≤ 122)
def lettersS (z : Str) : Bool := !decide (z.length = 0) && z.cps.toList.all letC
def wordS (z : Str) : Bool := lettersS z && decide (z.length ≤ 8)
def at1 : Str := "@"
def personS (z : Str) : Bool := match Txt.split z at1 with
  | [a, b] => wordS a && wordS b
  | _ => false
def signC (c : Nat) : Bool := decide (32 ≤ c) && decide (c ≤ 126)
theorem cls_low : ∀ c, c < 128 → (Unicode.isAlpha c && !(Unicode.isUpper c || Unicode.isTitle c)) = letC c := by decide +kernel
theorem cls_low2 : ∀ c, c < 128 → Unicode.isLower c = letC c := by decide +kernel
theorem letC_lt {c : Nat} (h : letC c = true) : c < 128 := by
  have := of_decide_eq_true (Bool.and_eq_true_iff.mp h).2
  omega
theorem low3 (z : Str) : (Txt.isascii z && (Txt.isalpha z && Txt.islower z)) = lettersS z := by
  have e1 : Txt.isascii z = z.cps.toList.all fun c => decide (c < 128) := by
    unfold Txt.isascii
    exact (Array.all_toList ..).symm
  have e2 : Txt.isalpha z = (!decide (z.length = 0) && z.cps.toList.all Unicode.isAlpha) := by
    unfold Txt.isalpha
    rw [← Array.all_toList]
    congr 1
    by_cases h : z.length = 0
    · rw [h]; rfl
    · rw [decide_eq_false h, decide_eq_true (show z.length > 0 by omega)]; rfl
  have e3 : Txt.islower z = (z.cps.toList.any Unicode.isLower && !z.cps.toList.any fun c => Unicode.isUpper c || Unicode.isTitle c) := by
    unfold Txt.islower
    rw [← Array.any_toList, ← Array.any_toList]
  rw [e1, e2, e3]
  unfold lettersS
  have hl : z.length = z.cps.toList.length := (Array.length_toList ..).symm
  rw [hl]
  generalize z.cps.toList = l
  cases h : l.all letC with
  | true =>
    have hm := List.all_eq_true.mp h
    have a1 : (l.all fun c => decide (c < 128)) = true := List.all_eq_true.mpr fun c hc => decide_eq_true (letC_lt (hm c hc))
    have a2 : l.all Unicode.isAlpha = true := List.all_eq_true.mpr fun c hc => by
      have := cls_low c (letC_lt (hm c hc))
      rw [hm c hc] at this
      exact (Bool.and_eq_true_iff.mp this).1
    have a3 : (l.any fun c => Unicode.isUpper c || Unicode.isTitle c) = false := List.any_eq_false.mpr fun c hc => by
      have := cls_low c (letC_lt (hm c hc))
      rw [hm c hc] at this
      have := (Bool.and_eq_true_iff.mp this).2
      intro h
      rw [h] at this
      cases this
    rw [a1, a2, a3]
    cases l with
    | nil => rfl
    | cons c r =>
      have : Unicode.isLower c = true := by rw [cls_low2 c (letC_lt (hm c List.mem_cons_self)), hm c List.mem_cons_self]
      rw [List.any_cons, this]
      rfl
  | false =>
    rw [Bool.and_false]
    cases h1 : l.all fun c => decide (c < 128) with
    | false => rfl
    | true =>
      rw [Bool.true_and]
      cases h2 : l.all Unicode.isAlpha with
      | false => rw [Bool.and_false, Bool.false_and]
      | true =>
        cases h3 : l.any fun c => Unicode.isUpper c || Unicode.isTitle c with
        | true => rw [Bool.not_true, Bool.and_false, Bool.and_false]
        | false =>
          refine absurd (List.all_eq_true.mpr fun c hc => ?_) (by rw [h]; exact Bool.false_ne_true)
          rw [← cls_low c (of_decide_eq_true (List.all_eq_true.mp h1 c hc)), List.all_eq_true.mp h2 c hc]
          have := List.any_eq_false.mp h3 c hc
          rw [Bool.eq_false_iff.mpr this]
          rfl
theorem word_free {z : Str} (h : wordS z = true) : 64 ∉ z.cps.toList := fun k => by
  have := List.all_eq_true.mp (Bool.and_eq_true_iff.mp (Bool.and_eq_true_iff.mp h).1).2 64 k
  exact absurd this (by decide)
theorem at1_eq : at1 = (⟨#[64]⟩ : Str) := by decide +kernel
/-- one sign, the first place of it -/
theorem part_one (z : Str) (c : Nat) : (c ∉ z.cps.toList ∧ Txt.partition z ⟨#[c]⟩ = (z, Str.empty, Str.empty)) ∨
    (∃ p q, Txt.partition z ⟨#[c]⟩ = (p, ⟨#[c]⟩, q) ∧ c ∉ p.cps.toList ∧ z.cps.toList = p.cps.toList ++ c :: q.cps.toList) := by
  unfold Txt.partition
  rcases StrLaws.occ_head z ⟨#[c]⟩ 1 (Nat.le_refl 1) with ⟨e, hn⟩ | ⟨i, r, e, ha, hn⟩
  · refine .inl ⟨fun h => ?_, by rw [e]⟩
    obtain ⟨i, hi⟩ := List.getElem?_of_mem h
    exact hn i ((StrLaws.subAt_one z c i).mpr hi)
  · refine .inr ⟨Builtin.Str.strSub z 0 i, Builtin.Str.strSub z (i + 1) z.length, by rw [e]; rfl, fun h => ?_, ?_⟩
    · rw [StrLaws.strSub_toList, List.drop_zero, Nat.sub_zero] at h
      obtain ⟨k, hk⟩ := List.getElem?_of_mem h
      rw [List.getElem?_take] at hk
      split at hk
      · rename_i ki
        exact hn k ki ((StrLaws.subAt_one z c k).mpr hk)
      · cases hk
    · have hi := (StrLaws.subAt_one z c i).mp ha
      have hl : z.cps.toList.length = z.length := Array.length_toList ..
      rw [StrLaws.strSub_toList, StrLaws.strSub_toList, List.drop_zero, Nat.sub_zero]
      generalize z.cps.toList = l at hi hl
      have h1 : i < l.length := (List.getElem?_eq_some_iff.mp hi).1
      have h2 : l[i] = c := (List.getElem?_eq_some_iff.mp hi).2
      have e3 : (l.drop (i + 1)).take (z.length - (i + 1)) = l.drop (i + 1) := List.take_of_length_le (by rw [List.length_drop]; omega)
      rw [e3, ← h2, List.getElem_cons_drop h1, List.take_append_drop]
theorem person_part (z : Str) : personS z = (wordS (Txt.partition z at1).1 && wordS (Txt.partition z at1).2.2) := by
  have w0 : wordS Str.empty = false := by decide +kernel
  unfold personS
  rw [at1_eq]
  rcases part_one z 64 with ⟨h, e⟩ | ⟨p, q, e, hp, hz⟩
  · have es : Txt.split z ⟨#[64]⟩ = [z] := split_of (List.cons_ne_nil _ _) (fun p hp => by rw [List.mem_singleton.mp hp]; exact h) rfl
    rw [e, es]
    show false = (wordS z && wordS Str.empty)
    rw [w0, Bool.and_false]
  · rw [e]
    show _ = (wordS p && wordS q)
    by_cases hq : 64 ∈ q.cps.toList
    · have wq : wordS q = false := Bool.eq_false_iff.mpr fun h => word_free h hq
      rw [wq, Bool.and_false]
      have hf := StrLaws.split_free z 64
      have hc := split_codes z 64
      generalize Txt.split z ⟨#[64]⟩ = ys at *
      match ys, hf, hc with
      | [], _, _ => rfl
      | [_], _, _ => rfl
      | [a, b], hf, hc =>
        have h2 : a.cps.toList ++ 64 :: b.cps.toList = z.cps.toList := hc
        rw [hz] at h2
        have := (app_sep (hf a List.mem_cons_self) hp h2).2
        exact absurd (this ▸ hq) (hf b (List.mem_cons_of_mem _ List.mem_cons_self))
      | _ :: _ :: _ :: _, _, _ => rfl
    · have es : Txt.split z ⟨#[64]⟩ = [p, q] := split_of (List.cons_ne_nil _ _) (fun x hx => by
        rcases List.mem_cons.mp hx with rfl | hx
        · exact hp
        · rw [List.mem_singleton.mp hx]; exact hq) hz
      rw [es]
theorem part_parts (z : Str) (c : Nat) : (Txt.partition z ⟨#[c]⟩).1.length ≤ z.length ∧ (Txt.partition z ⟨#[c]⟩).2.2.length ≤ z.length ∧
    (∀ x ∈ (Txt.partition z ⟨#[c]⟩).1.cps.toList, x ∈ z.cps.toList) ∧ ∀ x ∈ (Txt.partition z ⟨#[c]⟩).2.2.cps.toList, x ∈ z.cps.toList := by
  have hl : ∀ y : Str, y.length = y.cps.toList.length := fun y => (Array.length_toList ..).symm
  rcases part_one z c with ⟨h, e⟩ | ⟨p, q, e, hp, hz⟩
  · rw [e]
    exact ⟨Nat.le_refl _, Nat.zero_le _, fun _ h => h, fun x h => nomatch h⟩
  · rw [e]
    refine ⟨?_, ?_, fun x h => by rw [hz]; exact List.mem_append_left _ h, fun x h => by rw [hz]; exact List.mem_append_right _ (List.mem_cons_of_mem _ h)⟩
    · show p.length ≤ z.length
      rw [hl p, hl z, hz, List.length_append]
      omega
    · show q.length ≤ z.length
      rw [hl q, hl z, hz, List.length_append, List.length_cons]
      omega
theorem cls_print : ∀ c, c < 128 → Unicode.isPrintable c = signC c := by decide +kernel
theorem say3 (z : Str) : (Txt.isascii z && Txt.isprintable z) = z.cps.toList.all signC := by
  have e1 : Txt.isascii z = z.cps.toList.all fun c => decide (c < 128) := by
    unfold Txt.isascii
    exact (Array.all_toList ..).symm
  have e2 : Txt.isprintable z = z.cps.toList.all Unicode.isPrintable := by
    unfold Txt.isprintable
    exact (Array.all_toList ..).symm
  rw [e1, e2]
  generalize z.cps.toList = l
  induction l with
  | nil => rfl
  | cons c l ih =>
    rw [List.all_cons, List.all_cons, List.all_cons, ← ih]
    by_cases h : c < 128
    · rw [decide_eq_true h, cls_print c h]
      cases signC c <;> cases (l.all fun c => decide (c < 128)) <;> rfl
    · have : signC c = false := by
        unfold signC
        rw [decide_eq_false (show ¬ c ≤ 126 by omega), Bool.and_false]
      rw [this, decide_eq_false h]
      rfl
end Br

set_option Elab.async false
set_option linter.all false
set_option maxRecDepth 100000
set_option maxHeartbeats 4000000
/-! The data layer: defs over plain data. A state of a def is a list of cells (by slot): unset, data that is never changed
any more (fro), or a list or dict of its own that it may change (own). G is the part of the heap that no one changes. -/
namespace Dl
open PySem PySem.Spec PyProof.Rows L2
/-- a tuple: made and a key, perhaps, of a dict; of the module, or any; made and known as it lies (what dict() asks) -/
inductive Tk where
  | mad | wri | frz
  deriving DecidableEq
inductive D where
  | none
  | bool (b : Bool)
  | int (i : Int)
  | str (s : Str)
  | list (xs : List D)
  | tuple (c : Tk) (xs : List D)
  | dict (kvs : List (D × D))
  /-- the script -/
  | scr (ns : List Int)
mutual
def toPy : D → PyData
  | .none => .none
  | .bool b => .bool b
  | .int i => .int i
  | .str s => .str s
  | .list xs => .list (toPys xs)
  | .tuple _ xs => .tuple (toPys xs)
  | .dict kvs => .dict (toPyKs kvs)
  | .scr _ => .dict []
def toPys : List D → List PyData
  | [] => []
  | d :: ds => toPy d :: toPys ds
def toPyKs : List (D × D) → List (PyData × PyData)
  | [] => []
  | (a, b) :: r => (toPy a, toPy b) :: toPyKs r
end
def keyD : Key → D
  | .inl i => .int i
  | .inr x => .str x
mutual
inductive Rp (K : PySem.W.Frag) (G : Hp) : V → D → Prop
  | non : Rp K G .non .none
  | bl (b : Bool) : Rp K G (.bl b) (.bool b)
  | int (i : Int) : Rp K G (.int i) (.int i)
  | str (x : Str) : Rp K G (.str x) (.str x)
  | lst {a : Addr} {xs : List V} {ds : List D} : Rd G a (.lst xs) → RpAll K G xs ds → Rp K G (.ref a) (.list ds)
  | tup {a : Addr} {xs : List V} {ds : List D} : G a = some (.tup xs) → RpAll K G xs ds → Rp K G (.ref a) (.tuple .mad ds)
  | tupC {a : Addr} {xs : List V} {ds : List D} : SqT K G a xs → RpAll K G xs ds → Rp K G (.ref a) (.tuple .wri ds)
  | tupZ {a : Addr} {o : Obj} {xs : List V} {ds : List D} : G a = some (.frz o (.tup xs)) → o.dict = none → RpAll K G xs ds → Rp K G (.ref a) (.tuple .frz ds)
  | scr {a : Addr} {ns : List Int} : SqL K G a (ns.map V.int) → Rp K G (.ref a) (.scr ns)
  | dK {a : Addr} {ks : List Key} {xs : List V} {ds : List D} : Rd G a (.dK (ks.zip xs)) → ks.length = xs.length → RpAll K G xs ds → Rp K G (.ref a) (.dict ((ks.map keyD).zip ds))
  | dT {a : Addr} {ks : List (List Key)} {xs : List V} {ds : List D} : Rd G a (.dT (ks.zip xs)) → ks.length = xs.length → RpAll K G xs ds → Rp K G (.ref a) (.dict ((ks.map fun k => .tuple .mad (k.map keyD)).zip ds))
inductive RpAll (K : PySem.W.Frag) (G : Hp) : List V → List D → Prop
  | nil : RpAll K G [] []
  | cons {v : V} {vs : List V} {d : D} {ds : List D} : Rp K G v d → RpAll K G vs ds → RpAll K G (v :: vs) (d :: ds)
end
theorem rd_same {G G' : Hp} {a : Addr} {u : HO} (e : Same G G') (h : Rd G a u) : Rd G' a u := h.imp (e _ _) fun ⟨o, q⟩ => ⟨o, e _ _ q⟩
theorem sqT_same {K : PySem.W.Frag} {H H' : Hp} {a : Addr} {xs : List V} (e : Same H H') (h : SqT K H a xs) : SqT K H' a xs := h.imp (rd_same e) id
mutual
theorem rp_same {K : PySem.W.Frag} {G G' : Hp} (e : Same G G') : ∀ {v : V} {d : D}, Rp K G v d → Rp K G' v d
  | _, _, .non => .non
  | _, _, .bl b => .bl b
  | _, _, .int i => .int i
  | _, _, .str x => .str x
  | _, _, .lst s a => .lst (rd_same e s) (rps_same e a)
  | _, _, .tup s a => .tup (e _ _ s) (rps_same e a)
  | _, _, .tupC s a => .tupC (sqT_same e s) (rps_same e a)
  | _, _, .tupZ s n a => .tupZ (e _ _ s) n (rps_same e a)
  | _, _, .scr s => .scr (e.seq s)
  | _, _, .dK s l a => .dK (rd_same e s) l (rps_same e a)
  | _, _, .dT s l a => .dT (rd_same e s) l (rps_same e a)
theorem rps_same {K : PySem.W.Frag} {G G' : Hp} (e : Same G G') : ∀ {vs : List V} {ds : List D}, RpAll K G vs ds → RpAll K G' vs ds
  | _, _, .nil => .nil
  | _, _, .cons x r => .cons (rp_same e x) (rps_same e r)
end
theorem rp_tup {K : PySem.W.Frag} {G : Hp} {v : V} {c : Tk} {ds : List D} (h : Rp K G v (.tuple c ds)) : ∃ a xs, v = .ref a ∧ SqT K G a xs ∧ RpAll K G xs ds ∧ (c = .mad → G a = some (.tup xs)) := by
  cases h with
  | tup s a => exact ⟨_, _, rfl, SqT.of s, a, fun _ => s⟩
  | tupC s a => exact ⟨_, _, rfl, s, a, fun z => nomatch z⟩
  | tupZ s n a => exact ⟨_, _, rfl, .inl (.inr ⟨_, s⟩), a, fun z => nomatch z⟩
theorem rp_weak {K : PySem.W.Frag} {G : Hp} {v : V} {c : Tk} {ds : List D} (h : Rp K G v (.tuple c ds)) : Rp K G v (.tuple .wri ds) := by
  obtain ⟨a, xs, rfl, s, r, _⟩ := rp_tup h
  exact .tupC s r
theorem rps_len {K : PySem.W.Frag} {G : Hp} : ∀ {xs : List V} {ds : List D}, RpAll K G xs ds → xs.length = ds.length
  | _, _, .nil => rfl
  | _, _, .cons _ r => congrArg (· + 1) (rps_len r)
/-- what an object holds, its parts in G -/
inductive ObR (K : PySem.W.Frag) (G : Hp) : HO → D → Prop
  | lst {xs : List V} {ds : List D} : RpAll K G xs ds → ObR K G (.lst xs) (.list ds)
  | dK {ks : List Key} {xs : List V} {ds : List D} : ks.length = xs.length → RpAll K G xs ds → ObR K G (.dK (ks.zip xs)) (.dict ((ks.map keyD).zip ds))
  | dT {ks : List (List Key)} {xs : List V} {ds : List D} : ks.length = xs.length → RpAll K G xs ds → ObR K G (.dT (ks.zip xs)) (.dict ((ks.map fun k => .tuple .mad (k.map keyD)).zip ds))
theorem ob_same {K : PySem.W.Frag} {G G' : Hp} (e : Same G G') {o : HO} {d : D} (h : ObR K G o d) : ObR K G' o d := by
  cases h with
  | lst a => exact .lst (rps_same e a)
  | dK l a => exact .dK l (rps_same e a)
  | dT l a => exact .dT l (rps_same e a)
theorem ob_rp {K : PySem.W.Frag} {G : Hp} {a : Addr} {o : HO} {d : D} (h : ObR K G o d) (e : G a = some o) : Rp K G (.ref a) d := by
  cases h with
  | lst r => exact .lst (.inl e) r
  | dK l r => exact .dK (.inl e) l r
  | dT l r => exact .dT (.inl e) l r
def isTup : HO → Bool
  | .tup _ => true
  | _ => false
theorem ob_tup {K : PySem.W.Frag} {G : Hp} {o : HO} {d : D} (h : ObR K G o d) : isTup o = false := by cases h <;> rfl
/-- a value that is read: data, or an object that somebody owns -/
inductive Vw (K : PySem.W.Frag) (G H : Hp) : V → D → Prop
  | fro {v : V} {d : D} : Rp K G v d → Vw K G H v d
  | own {a : Addr} {o : HO} {d : D} : H a = some o → ObR K G o d → Vw K G H (.ref a) d
/-! ### states -/
inductive Cell where
  | un
  | fro (d : D)
  | own (d : D)
abbrev Cs := List Cell
/-- the addresses that are owned -/
def Ow (σ : L2.St) (ρ : Cs) (p : Addr) : Prop := ∃ (i : Nat) (d : D), ρ[i]? = some (Cell.own d) ∧ σ[i]? = some (some (V.ref p))
structure Rel (K : PySem.W.Frag) (σ : L2.St) (G H : Hp) (ρ : Cs) : Prop where
  gh : Same G H
  len : σ.length = ρ.length
  fro : ∀ (i : Nat) (d : D), ρ[i]? = some (Cell.fro d) → ∃ v, σ[i]? = some (some v) ∧ Rp K G v d
  own : ∀ (i : Nat) (d : D), ρ[i]? = some (Cell.own d) → ∃ p o, σ[i]? = some (some (V.ref p)) ∧ H p = some o ∧ G p = none ∧ ObR K G o d
  apart : ∀ (i j : Nat) (p : Addr) (d e : D), ρ[i]? = some (Cell.own d) → ρ[j]? = some (Cell.own e) → σ[i]? = some (some (V.ref p)) → σ[j]? = some (some (V.ref p)) → i = j
/-- a step of the heap: G grows, what is not owned stays -/
structure Stp (M : Addr → Prop) (G H G' H' : Hp) : Prop where
  gg : Same G G'
  hh : ∀ a o, ¬ M a → H a = some o → H' a = some o
  fr : ∀ a o, ¬ M a → H a = some o → G a = none → isTup o = false → G' a = none
  dom : ∀ a, H' a = none → H a = none
theorem Stp.refl {M : Addr → Prop} {G H : Hp} : Stp M G H G H := ⟨Same.refl G, fun _ _ _ h => h, fun _ _ _ _ h _ => h, fun _ h => h⟩
theorem Stp.weak {M N : Addr → Prop} {G H G' H' : Hp} (s : Stp M G H G' H') (h : ∀ a, M a → N a) : Stp N G H G' H' := ⟨s.gg, fun a o n e => s.hh a o (fun m => n (h a m)) e, fun a o n => s.fr a o fun m => n (h a m), s.dom⟩
theorem Stp.trans {M : Addr → Prop} {G H G1 H1 G2 H2 : Hp} (s : Stp M G H G1 H1) (t : Stp M G1 H1 G2 H2) : Stp M G H G2 H2 :=
  ⟨s.gg.trans t.gg, fun a o n e => t.hh a o n (s.hh a o n e), fun a o n e g i => t.fr a o n (s.hh a o n e) (s.fr a o n e g i) i, fun a e => s.dom a (t.dom a e)⟩
/-- what a step of a def keeps: slots below n, the heap but for what it owns -/
structure Lk (n : Nat) (σ : L2.St) (G H : Hp) (ρ : Cs) (σ' : L2.St) (G' H' : Hp) (ρ' : Cs) : Prop where
  st : Stp (Ow σ ρ) G H G' H'
  sb : ∀ p, Ow σ' ρ' p → Ow σ ρ p ∨ H p = none
  pn : ∀ i, i < n → σ'[i]? = σ[i]?
theorem Lk.refl {n : Nat} {σ : L2.St} {G H : Hp} {ρ : Cs} : Lk n σ G H ρ σ G H ρ := ⟨.refl, fun _ h => .inl h, fun _ _ => rfl⟩
theorem Lk.trans {n : Nat} {σ σ1 σ2 : L2.St} {G H G1 H1 G2 H2 : Hp} {ρ ρ1 ρ2 : Cs} (a : Lk n σ G H ρ σ1 G1 H1 ρ1) (b : Lk n σ1 G1 H1 ρ1 σ2 G2 H2 ρ2) : Lk n σ G H ρ σ2 G2 H2 ρ2 := by
  have nm : ∀ p o, ¬ Ow σ ρ p → H p = some o → ¬ Ow σ1 ρ1 p := fun p o n e w => by
    rcases a.sb p w with z | z
    · exact n z
    · rw [e] at z; cases z
  refine ⟨⟨a.st.gg.trans b.st.gg, fun p o n e => b.st.hh p o (nm p o n e) (a.st.hh p o n e), fun p o n e g t => b.st.fr p o (nm p o n e) (a.st.hh p o n e) (a.st.fr p o n e g t) t, fun p e => a.st.dom p (b.st.dom p e)⟩, fun p w => ?_, fun i h => (b.pn i h).trans (a.pn i h)⟩
  rcases b.sb p w with z | z
  · exact a.sb p z
  · exact .inr (a.st.dom p z)
/-- nothing of the def's own is touched -/
def Pure : Addr → Prop := fun _ => False
/-- a step that touches nothing keeps the state -/
theorem Rel.pure {K : PySem.W.Frag} {σ : L2.St} {G H G' H' : Hp} {ρ : Cs} (R : Rel K σ G H ρ) (s : Stp Pure G H G' H') (gh : Same G' H') : Rel K σ G' H' ρ := by
  refine ⟨gh, R.len, fun i d e => ?_, fun i d e => ?_, R.apart⟩
  · obtain ⟨v, h, r⟩ := R.fro i d e
    exact ⟨v, h, rp_same s.gg r⟩
  · obtain ⟨p, o, h, hp, gp, r⟩ := R.own i d e
    exact ⟨p, o, h, s.hh p o (fun z => z) hp, s.fr p o (fun z => z) hp gp (ob_tup r), ob_same s.gg r⟩
theorem Lk.pure {n : Nat} {σ : L2.St} {G H G' H' : Hp} {ρ : Cs} (s : Stp Pure G H G' H') : Lk n σ G H ρ σ G' H' ρ := ⟨s.weak fun _ => False.elim, fun _ h => .inl h, fun _ _ => rfl⟩
/-- owned: not new -/
theorem Rel.old {K : PySem.W.Frag} {σ : L2.St} {G H : Hp} {ρ : Cs} (R : Rel K σ G H ρ) {p : Addr} (w : Ow σ ρ p) : H p ≠ none := fun z => by
  obtain ⟨i, d, h1, h2⟩ := w
  obtain ⟨p', o, h3, h4, _⟩ := R.own i d h1
  rw [h2] at h3
  cases h3
  rw [z] at h4
  cases h4
/-! ### what is told of data -/
abbrev ME := Cs → (D → Cs → Prop) → Prop
abbrev MT := Cs → (Bool → Cs → Prop) → Prop
abbrev MA := Cs → (List D → Cs → Prop) → Prop
/-- what is wanted behind a statement -/
structure Dn where
  nx : Cs → Prop
  rt : D → Cs → Prop
  bk : Cs → Prop := fun _ => False
  ct : Cs → Prop := fun _ => False
abbrev MS := Dn → Cs → Prop
/-- a flavour: of the heap ahead, the slots, the cells, G and H behind, the value, its data -/
abbrev Fl := Hp → L2.St → Cs → Hp → Hp → V → D → Prop
def fE (K : PySem.W.Frag) : Fl := fun _ _ _ G _ v d => Rp K G v d
def fV (K : PySem.W.Frag) : Fl := fun _ _ _ G H v d => Vw K G H v d
def fF (K : PySem.W.Frag) : Fl := fun H0 σ ρ G H v d => ∃ p o, v = .ref p ∧ H0 p = none ∧ ¬ Ow σ ρ p ∧ H p = some o ∧ G p = none ∧ ObR K G o d
/-- the readings by data -/
def tE (K : PySem.W.Frag) (φ : Fl) (m : ME) : TE := fun σ H Q => ∃ G ρ, Rel K σ G H ρ ∧ m ρ fun d ρ' => ∀ v G' H', Rel K σ G' H' ρ' → Lk 0 σ G H ρ σ G' H' ρ' → φ H σ ρ' G' H' v d → Q v H'
def tT (K : PySem.W.Frag) (m : MT) : TT := fun σ H Q => ∃ G ρ, Rel K σ G H ρ ∧ m ρ fun b ρ' => ∀ G' H', Rel K σ G' H' ρ' → Lk 0 σ G H ρ σ G' H' ρ' → Q b H'
def tA (K : PySem.W.Frag) (m : MA) : TA := fun σ H Q => ∃ G ρ, Rel K σ G H ρ ∧ m ρ fun ds ρ' => ∀ vs G' H', Rel K σ G' H' ρ' → Lk 0 σ G H ρ σ G' H' ρ' → RpAll K G' vs ds → Q vs H'
def tS (K : PySem.W.Frag) (n : Nat) (m : MS) : TS := fun T σ H => ∃ G ρ E, Rel K σ G H ρ ∧ m E ρ ∧
  (∀ σ' G' H' ρ', Rel K σ' G' H' ρ' → Lk n σ G H ρ σ' G' H' ρ' → E.nx ρ' → T.nx σ' H') ∧
  (∀ v d σ' G' H' ρ', Rel K σ' G' H' ρ' → Lk n σ G H ρ σ' G' H' ρ' → Rp K G' v d → E.rt d ρ' → T.rt v H') ∧
  (∀ σ' G' H' ρ', Rel K σ' G' H' ρ' → Lk n σ G H ρ σ' G' H' ρ' → E.bk ρ' → T.bk σ' H') ∧
  (∀ σ' G' H' ρ', Rel K σ' G' H' ρ' → Lk n σ G H ρ σ' G' H' ρ' → E.ct ρ' → T.ct σ' H')
def Mo {α : Type} (m : Cs → (α → Cs → Prop) → Prop) : Prop := ∀ (ρ : Cs) (k k' : α → Cs → Prop), (∀ d ρ', k d ρ' → k' d ρ') → m ρ k → m ρ k'
def MoS (m : MS) : Prop := ∀ (ρ : Cs) (E E' : Dn), (∀ ρ', E.nx ρ' → E'.nx ρ') → (∀ d ρ', E.rt d ρ' → E'.rt d ρ') → (∀ ρ', E.bk ρ' → E'.bk ρ') → (∀ ρ', E.ct ρ' → E'.ct ρ') → m E ρ → m E' ρ
structure SE (K : PySem.W.Frag) (φ : Fl) (X : Cx) (e : Expr) (m : ME) : Prop where
  mono : Mo m
  pe : PE X e (tE K φ m)
structure ST (K : PySem.W.Frag) (X : Cx) (e : Expr) (m : MT) : Prop where
  mono : Mo m
  pt : PT X e (tT K m)
structure SA (K : PySem.W.Frag) (X : Cx) (es : List Expr) (m : MA) : Prop where
  mono : Mo m
  pa : PA X es (tA K m)
structure SS (K : PySem.W.Frag) (n : Nat) (X : Cx) (st : Stmt) (m : MS) : Prop where
  mono : MoS m
  ps : PS X st (tS K n m)
structure SB (K : PySem.W.Frag) (n : Nat) (X : Cx) (sts : List Stmt) (m : MS) : Prop where
  mono : MoS m
  ps : PSs X sts (tS K n m)
section
variable {X : Cx}
theorem pe_weak {e : Expr} {t t' : TE} (h : PE X e t) (w : ∀ σ H Q, t' σ H Q → t σ H Q) : PE X e t' := ⟨fun pins s σ H Q I q => h.run pins s σ H Q I (w σ H Q q)⟩
theorem pt_weak {e : Expr} {t t' : TT} (h : PT X e t) (w : ∀ σ H Q, t' σ H Q → t σ H Q) : PT X e t' := ⟨fun pins s σ H Q I q => h.run pins s σ H Q I (w σ H Q q)⟩
theorem pa_weak {e : List Expr} {t t' : TA} (h : PA X e t) (w : ∀ σ H Q, t' σ H Q → t σ H Q) : PA X e t' := ⟨fun pos pins s σ H Q I q => h.run pos pins s σ H Q I (w σ H Q q)⟩
theorem ps_weak {e : Stmt} {t t' : TS} (h : PS X e t) (w : ∀ D σ H, t' D σ H → t D σ H) : PS X e t' := ⟨fun pins s σ H D I q => h.run pins s σ H D I (w D σ H q)⟩
theorem pss_weak {e : List Stmt} {t t' : TS} (h : PSs X e t) (w : ∀ D σ H, t' D σ H → t D σ H) : PSs X e t' := ⟨fun pins s σ H D I q => h.run pins s σ H D I (w D σ H q)⟩
end
section
variable {K : PySem.W.Frag} {X : Cx} {e : Expr} {m : ME}
/-- the reading by data, run -/
theorem tE_run {φ : Fl} {σ : L2.St} {G H : Hp} {ρ : Cs} {Q : VK} (R : Rel K σ G H ρ) (h : m ρ fun d ρ' => ∀ v G' H', Rel K σ G' H' ρ' → Lk 0 σ G H ρ σ G' H' ρ' → φ H σ ρ' G' H' v d → Q v H') : tE K φ m σ H Q := ⟨G, ρ, R, h⟩
theorem SE.V (s : SE K (fE K) X e m) : SE K (fV K) X e m := ⟨s.mono, pe_weak s.pe fun σ H Q ⟨G, ρ, R, h⟩ => ⟨G, ρ, R, s.mono ρ _ _ (fun d ρ' q v G' H' R' l r => q v G' H' R' l (.fro r)) h⟩⟩
theorem SE.FV (s : SE K (fF K) X e m) : SE K (fV K) X e m := ⟨s.mono, pe_weak s.pe fun σ H Q ⟨G, ρ, R, h⟩ => ⟨G, ρ, R, s.mono ρ _ _ (fun d ρ' q v G' H' R' l r => by
  obtain ⟨p, o, rfl, _, _, hp, _, ob⟩ := r
  exact q _ G' H' R' l (.own hp ob)) h⟩⟩
/-- G with an object of H -/
theorem same_put {G H : Hp} {p : Addr} {o : HO} (s : Same G H) (h : H p = some o) : Same (upd G p o) H := fun b u e => by
  by_cases q : b = p
  · subst q
    rw [upd_same] at e
    cases e
    exact h
  · rw [upd_ne q] at e
    exact s b u e
theorem same_upd {G : Hp} {p : Addr} {o : HO} (h : G p = none) : Same G (upd G p o) := fun b x e => (upd_ne (ne_of_none e h)).trans e
/-- an unowned one is taken into G -/
theorem Rel.take {σ : L2.St} {G H : Hp} {ρ : Cs} {p : Addr} {o : HO} (R : Rel K σ G H ρ) (hp : H p = some o) (gp : G p = none) (nw : ¬ Ow σ ρ p) : Rel K σ (upd G p o) H ρ := by
  have sg := same_upd (o := o) gp
  refine ⟨same_put R.gh hp, R.len, fun i d e => ?_, fun i d e => ?_, R.apart⟩
  · obtain ⟨v, h, r⟩ := R.fro i d e
    exact ⟨v, h, rp_same sg r⟩
  · obtain ⟨q, o', h, hq, gq, r⟩ := R.own i d e
    exact ⟨q, o', h, hq, by rw [upd_ne (fun z => nw (by subst z; exact ⟨i, d, e, h⟩))]; exact gq, ob_same sg r⟩
theorem SE.F (s : SE K (fF K) X e m) : SE K (fE K) X e m := ⟨s.mono, pe_weak s.pe fun σ H Q ⟨G, ρ, R, h⟩ => ⟨G, ρ, R, s.mono ρ _ _ (fun d ρ' q v G' H' R' l r => by
  obtain ⟨p, o, rfl, h0, nw, hp, gp, ob⟩ := r
  have sg := same_upd (o := o) gp
  refine q _ (upd G' p o) H' (R'.take hp gp nw) ⟨⟨l.st.gg.trans sg, l.st.hh, fun a u n e g t => ?_, l.st.dom⟩, l.sb, l.pn⟩ (ob_rp (ob_same sg ob) upd_same)
  rw [upd_ne (fun z => by subst z; rw [h0] at e; cases e)]
  exact l.st.fr a u n e g t) h⟩⟩
end
/-! ### names, constants -/
section
variable {K : PySem.W.Frag} {X : Cx}
def mVar (i : Nat) : ME := fun ρ k => match ρ[i]? with
  | some (.fro d) => k d ρ
  | _ => False
/-- an owned one, read -/
def mOwn (i : Nat) : ME := fun ρ k => match ρ[i]? with
  | some (.own d) => k d ρ
  | some (.fro d) => k d ρ
  | _ => False
/-- an owned one, given away -/
def mFrz (i : Nat) : ME := fun ρ k => match ρ[i]? with
  | some (.own d) => k d (ρ.set i (.fro d))
  | some (.fro d) => k d ρ
  | _ => False
def mC (d : D) : ME := fun ρ k => k d ρ
theorem se_var {i : Nat} {e : Expr} (h : PE X e (tVar i)) : SE K (fE K) X e (mVar i) := by
  constructor
  · intro ρ k k' h
    unfold mVar
    split
    · exact h _ _
    · exact id
  · refine pe_weak h fun σ H Q ⟨G, ρ, R, h⟩ => ?_
    unfold mVar at h
    split at h
    · rename_i d e
      obtain ⟨v, hv, r⟩ := R.fro i d e
      exact ⟨v, hv, h v G H R .refl r⟩
    · exact h.elim
theorem se_own {i : Nat} {e : Expr} (h : PE X e (tVar i)) : SE K (fV K) X e (mOwn i) := by
  constructor
  · intro ρ k k' h
    unfold mOwn
    split
    · exact h _ _
    · exact h _ _
    · exact id
  · refine pe_weak h fun σ H Q ⟨G, ρ, R, h⟩ => ?_
    unfold mOwn at h
    split at h
    · rename_i d e
      obtain ⟨p, o, hv, hp, gp, r⟩ := R.own i d e
      exact ⟨_, hv, h _ G H R .refl (.own hp r)⟩
    · rename_i d e
      obtain ⟨v, hv, r⟩ := R.fro i d e
      exact ⟨v, hv, h v G H R .refl (.fro r)⟩
    · exact h.elim
theorem set_get {α : Type} {l : List α} {i j : Nat} {x y : α} (h : (l.set i x)[j]? = some y) : (j = i ∧ i < l.length ∧ y = x) ∨ (j ≠ i ∧ l[j]? = some y) := by
  by_cases e : j = i
  · subst e
    rw [List.getElem?_set_self'] at h
    cases q : l[j]? with
    | none => rw [q] at h; cases h
    | some z =>
      rw [q] at h
      exact .inl ⟨rfl, (List.getElem?_eq_some_iff.mp q).1, (Option.some.inj h).symm⟩
  · rw [List.getElem?_set_ne (fun z => e z.symm)] at h
    exact .inr ⟨e, h⟩
theorem se_frz {i : Nat} {e : Expr} (h : PE X e (tVar i)) : SE K (fE K) X e (mFrz i) := by
  constructor
  · intro ρ k k' h
    unfold mFrz
    split
    · exact h _ _
    · exact h _ _
    · exact id
  · refine pe_weak h fun σ H Q ⟨G, ρ, R, h⟩ => ?_
    unfold mFrz at h
    split at h
    · rename_i d e
      obtain ⟨p, o, hv, hp, gp, r⟩ := R.own i d e
      have sg := same_upd (o := o) gp
      refine ⟨_, hv, h _ (upd G p o) H ⟨same_put R.gh hp, by rw [List.length_set]; exact R.len, fun j c q => ?_, fun j c q => ?_, fun j l a c c' q q' => ?_⟩ ⟨⟨sg, fun _ _ _ h => h, fun a u n e1 g t => ?_, fun _ h => h⟩, (fun q w => ?_), fun _ _ => rfl⟩ (ob_rp (ob_same sg r) upd_same)⟩
      · rcases set_get q with ⟨rfl, _, z⟩ | ⟨_, z⟩
        · cases z
          exact ⟨_, hv, ob_rp (ob_same sg r) upd_same⟩
        · obtain ⟨v, h1, h2⟩ := R.fro j c z
          exact ⟨v, h1, rp_same sg h2⟩
      · rcases set_get q with ⟨rfl, _, z⟩ | ⟨ne, z⟩
        · cases z
        · obtain ⟨p', o', h1, h2, h3, h4⟩ := R.own j c z
          refine ⟨p', o', h1, h2, ?_, ob_same sg h4⟩
          rw [upd_ne (fun w => by subst w; exact ne (R.apart j i p' c d z e h1 hv))]
          exact h3
      · rcases set_get q with ⟨_, _, z⟩ | ⟨_, z⟩
        · cases z
        · rcases set_get q' with ⟨_, _, z'⟩ | ⟨_, z'⟩
          · cases z'
          · exact R.apart j l a c c' z z'
      · rw [upd_ne (fun w => by subst w; exact n ⟨i, d, e, hv⟩)]
        exact g
      · obtain ⟨j, c, q1, q2⟩ := w
        rcases set_get q1 with ⟨_, _, z⟩ | ⟨_, z⟩
        · cases z
        · exact .inl ⟨j, c, z, q2⟩
    · rename_i d e
      obtain ⟨v, hv, r⟩ := R.fro i d e
      exact ⟨v, hv, h v G H R .refl r⟩
    · exact h.elim
theorem se_const {v : V} {d : D} {e : Expr} (p : PE X e (tC v)) (h : ∀ G, Rp K G v d) : SE K (fE K) X e (mC d) :=
  ⟨fun _ _ _ h q => h _ _ q, pe_weak p fun σ H Q ⟨G, ρ, R, q⟩ => q v G H R .refl (h G)⟩
theorem se_int {i : Int} {j pos} : SE K (fE K) X (.Constant (.int i) j pos) (mC (.int i)) := se_const pe_int fun _ => .int i
theorem se_str {x : Str} {j pos} : SE K (fE K) X (.Constant (.str x) j pos) (mC (.str x)) := se_const pe_str fun _ => .str x
theorem se_bl {b : Bool} {j pos} : SE K (fE K) X (.Constant (.bool b) j pos) (mC (.bool b)) := se_const pe_bl fun _ => .bl b
theorem se_non {j pos} : SE K (fE K) X (.Constant .none j pos) (mC .none) := se_const pe_non fun _ => .non
end
end Dl

set_option Elab.async false
set_option linter.all false
set_option maxRecDepth 100000
set_option maxHeartbeats 4000000
namespace Dl
open PySem PySem.Spec PyProof.Rows L2
/-! ### operations: what is read gives data, or a new list or dict -/
abbrev PF := Hp → Hp → Hp → V → D → Prop
def pE (K : PySem.W.Frag) : PF := fun _ G _ v d => Rp K G v d
def pF (K : PySem.W.Frag) : PF := fun H0 G H v d => ∃ p o, v = .ref p ∧ H0 p = none ∧ H p = some o ∧ G p = none ∧ ObR K G o d
def Emb (K : PySem.W.Frag) (π : PF) (φ : Fl) : Prop := ∀ (σ : L2.St) (ρ0 ρ : Cs) (G0 H0 G H G' H' : Hp) (v : V) (d : D), Rel K σ G H ρ → Lk 0 σ G0 H0 ρ0 σ G H ρ → π H G' H' v d → φ H0 σ ρ G' H' v d
theorem embE {K : PySem.W.Frag} : Emb K (pE K) (fE K) := fun _ _ _ _ _ _ _ _ _ _ _ _ _ h => h
theorem embF {K : PySem.W.Frag} : Emb K (pF K) (fF K) := fun σ ρ0 ρ G0 H0 G H G' H' v d R l ⟨p, o, e, h0, hp, gp, ob⟩ => ⟨p, o, e, l.st.dom p h0, fun w => R.old w h0, hp, gp, ob⟩
abbrev O1 := D → (D → Prop) → Prop
abbrev O2 := D → D → (D → Prop) → Prop
abbrev On := List D → (D → Prop) → Prop
structure Op2 (K : PySem.W.Frag) (π : PF) (r : R2) (o : O2) : Prop where
  mono : ∀ a b (k k' : D → Prop), (∀ d, k d → k' d) → o a b k → o a b k'
  run : ∀ (G H : Hp) (x y : V) (a b : D) (Q : VK), Same G H → Vw K G H x a → Vw K G H y b → o a b (fun d => ∀ v G' H', Same G' H' → Stp Pure G H G' H' → π H G' H' v d → Q v H') → r x y H Q
structure Op1 (K : PySem.W.Frag) (π : PF) (r : V → Hp → VK → Prop) (o : O1) : Prop where
  mono : ∀ a (k k' : D → Prop), (∀ d, k d → k' d) → o a k → o a k'
  run : ∀ (G H : Hp) (x : V) (a : D) (Q : VK), Same G H → Vw K G H x a → o a (fun d => ∀ v G' H', Same G' H' → Stp Pure G H G' H' → π H G' H' v d → Q v H') → r x H Q
structure Opn (K : PySem.W.Frag) (π : PF) (r : List V → Hp → VK → Prop) (o : On) : Prop where
  mono : ∀ a (k k' : D → Prop), (∀ d, k d → k' d) → o a k → o a k'
  run : ∀ (G H : Hp) (xs : List V) (as : List D) (Q : VK), Same G H → RpAll K G xs as → o as (fun d => ∀ v G' H', Same G' H' → Stp Pure G H G' H' → π H G' H' v d → Q v H') → r xs H Q
theorem stp_refl {G H : Hp} : Stp Pure G H G H := .refl
section
variable {K : PySem.W.Frag} {X : Cx} {a b : Expr} {ma mb : ME} {pos : Pos} {π : PF} {φ : Fl}
def mOp (o : O2) (ma mb : ME) : ME := fun ρ k => ma ρ fun da ρ1 => mb ρ1 fun db ρ2 => o da db fun d => k d ρ2
/-- the left one is owned: it is read when the right one is there -/
def mOpO (o : O2) (i : Nat) (mb : ME) : ME := fun ρ k => mOwn i ρ fun _ _ => mb ρ fun db ρ2 => mOwn i ρ2 fun da _ => o da db fun d => k d ρ2
def mUn (o : O1) (ma : ME) : ME := fun ρ k => ma ρ fun da ρ1 => o da fun d => k d ρ1
def mOn (o : On) (ma : MA) : ME := fun ρ k => ma ρ fun ds ρ1 => o ds fun d => k d ρ1
theorem mo_op {o : O2} (h : ∀ a b (k k' : D → Prop), (∀ d, k d → k' d) → o a b k → o a b k') (ha : Mo ma) (hb : Mo mb) : Mo (mOp o ma mb) := fun ρ k k' w => ha ρ _ _ fun da ρ1 => hb ρ1 _ _ fun db ρ2 => h _ _ _ _ fun d => w d ρ2
theorem mo_own {i : Nat} : Mo (mOwn i) := by
  intro ρ k k' h
  unfold mOwn
  split
  · exact h _ _
  · exact h _ _
  · exact id
theorem mo_opO {o : O2} {i : Nat} (h : ∀ a b (k k' : D → Prop), (∀ d, k d → k' d) → o a b k → o a b k') (hb : Mo mb) : Mo (mOpO o i mb) := fun ρ k k' w => mo_own ρ _ _ fun _ _ => hb ρ _ _ fun db ρ2 => mo_own ρ2 _ _ fun da _ => h _ _ _ _ fun d => w d ρ2
theorem mo_un {o : O1} (h : ∀ a (k k' : D → Prop), (∀ d, k d → k' d) → o a k → o a k') (ha : Mo ma) : Mo (mUn o ma) := fun ρ k k' w => ha ρ _ _ fun da ρ1 => h _ _ _ fun d => w d ρ1
theorem vw_of {G H G' H' : Hp} {σ : L2.St} {ρ : Cs} {v : V} {d : D} (r : Rp K G v d) (l : Lk 0 σ G H ρ σ G' H' ρ') : Vw K G' H' v d := .fro (rp_same l.st.gg r)
/-- the reading of two operands and an operation -/
theorem t_op {r : R2} {o : O2} (ho : Op2 K π r o) (em : Emb K π φ) (ha : SE K (fE K) X a ma) (hb : SE K (fV K) X b mb) (σ : L2.St) (H : Hp) (Q : VK) (h : tE K φ (mOp o ma mb) σ H Q) : tOp r (tE K (fE K) ma) (tE K (fV K) mb) σ H Q := by
  obtain ⟨G, ρ, R, h⟩ := h
  refine ⟨G, ρ, R, ha.mono ρ _ _ (fun da ρ1 q x G1 H1 R1 l1 rx => ⟨G1, ρ1, R1, hb.mono ρ1 _ _ (fun db ρ2 q2 y G2 H2 R2 l2 ry => ?_) q⟩) h⟩
  refine ho.run G2 H2 x y da db Q R2.gh (vw_of rx l2) ry (ho.mono _ _ _ _ (fun d q3 v G3 H3 gh st pv => ?_) q2)
  exact q3 v G3 H3 (R2.pure st gh) ((l1.trans l2).trans (.pure st)) (em σ ρ ρ2 G H G2 H2 G3 H3 v d R2 (l1.trans l2) pv)
/-- what is read of a slot: its value is there -/
theorem own_there {σ : L2.St} {G H : Hp} {ρ : Cs} {i : Nat} {k : D → Cs → Prop} (R : Rel K σ G H ρ) (h : mOwn i ρ k) : ∃ x d, σ[i]? = some (some x) ∧ Vw K G H x d ∧ k d ρ := by
  unfold mOwn at h
  split at h
  · rename_i da e
    obtain ⟨p, ob, hv, hp, gp, rr⟩ := R.own i da e
    exact ⟨_, da, hv, .own hp rr, h⟩
  · rename_i da e
    obtain ⟨v, hv, rr⟩ := R.fro i da e
    exact ⟨v, da, hv, .fro rr, h⟩
  · exact h.elim
theorem t_opO {r : R2} {o : O2} {i : Nat} (ho : Op2 K π r o) (em : Emb K π φ) (hb : SE K (fV K) X b mb) (σ : L2.St) (H : Hp) (Q : VK) (h : tE K φ (mOpO o i mb) σ H Q) : tOp r (tVar i) (tE K (fV K) mb) σ H Q := by
  obtain ⟨G, ρ, R, h⟩ := h
  obtain ⟨x, _, hx, _, h⟩ := own_there R h
  refine ⟨x, hx, G, ρ, R, hb.mono ρ _ _ (fun db ρ2 q2 y G2 H2 R2 l2 ry => ?_) h⟩
  obtain ⟨x', da, hx', vx, q2⟩ := own_there R2 q2
  rw [hx] at hx'
  cases hx'
  exact ho.run G2 H2 x y da db Q R2.gh vx ry (ho.mono _ _ _ _ (fun d q3 v G3 H3 gh st pv => q3 v G3 H3 (R2.pure st gh) (l2.trans (.pure st)) (em σ ρ ρ2 G H G2 H2 G3 H3 v d R2 l2 pv)) q2)
theorem se_op {op : Operator} {r : R2} {o : O2} (hr : OpR X (binaryOp op) r) (ho : Op2 K π r o) (em : Emb K π φ) (ha : SE K (fE K) X a ma) (hb : SE K (fV K) X b mb) : SE K φ X (.BinOp a op b pos) (mOp o ma mb) :=
  ⟨mo_op ho.mono ha.mono hb.mono, pe_weak (pe_op hr ha.pe hb.pe) (t_op ho em ha hb)⟩
theorem se_cmp {op : CmpOp} {r : R2} {o : O2} (hr : OpR X (compareOp op) r) (ho : Op2 K π r o) (em : Emb K π φ) (ha : SE K (fE K) X a ma) (hb : SE K (fV K) X b mb) (hm : behindInMarks op b = false) : SE K φ X (.Compare a [op] [b] pos) (mOp o ma mb) :=
  ⟨mo_op ho.mono ha.mono hb.mono, pe_weak (pe_cmpR hr ha.pe hb.pe hm) (t_op ho em ha hb)⟩
theorem se_ix {r : R2} {o : O2} (hr : IxR X r) (ho : Op2 K π r o) (em : Emb K π φ) (ha : SE K (fE K) X a ma) (hb : SE K (fV K) X b mb) (hs : PlainIx b) : SE K φ X (.Subscript a b pos) (mOp o ma mb) :=
  ⟨mo_op ho.mono ha.mono hb.mono, pe_weak (pe_ix hr ha.pe hb.pe hs) (t_op ho em ha hb)⟩
theorem se_ixO {r : R2} {o : O2} {i : Nat} (hr : IxR X r) (ho : Op2 K π r o) (em : Emb K π φ) (ha : PE X a (tVar i)) (hb : SE K (fV K) X b mb) (hs : PlainIx b) : SE K φ X (.Subscript a b pos) (mOpO o i mb) :=
  ⟨mo_opO ho.mono hb.mono, pe_weak (pe_ix hr ha hb.pe hs) (t_opO ho em hb)⟩
theorem se_un {op : UnaryOp} {r : V → Hp → VK → Prop} {o : O1} (hr : UnR X (unaryOp op) r) (ho : Op1 K π r o) (em : Emb K π φ) (ha : SE K (fV K) X a ma) : SE K φ X (.UnaryOp op a pos) (mUn o ma) := by
  refine ⟨mo_un ho.mono ha.mono, pe_weak (pe_un hr ha.pe) fun σ H Q h => ?_⟩
  obtain ⟨G, ρ, R, h⟩ := h
  refine ⟨G, ρ, R, ha.mono ρ _ _ (fun da ρ1 q x G1 H1 R1 l1 rx => ?_) h⟩
  exact ho.run G1 H1 x da Q R1.gh rx (ho.mono _ _ _ (fun d q3 v G3 H3 gh st pv => q3 v G3 H3 (R1.pure st gh) (l1.trans (.pure st)) (em σ ρ ρ1 G H G1 H1 G3 H3 v d R1 l1 pv)) q)
/-! ### tests -/
def mTest (m : ME) : MT := fun ρ k => m ρ fun d ρ1 => match d with
  | .bool b => k b ρ1
  | _ => False
theorem mo_test {m : ME} (h : Mo m) : Mo (mTest m) := fun ρ k k' w => h ρ _ _ fun d ρ1 => by
  cases d <;> first | exact w _ _ | exact id
theorem st_val {e : Expr} {m : ME} (h : SE K (fE K) X e m) (he : ∀ whole, isTrue e X.env whole = (do let v ← whole; standAt e.pos; holding [v] (truthy v)) := by intro _; rfl) : ST K X e (mTest m) := by
  refine ⟨mo_test h.mono, pt_weak (pt_val h.pe he) fun σ H Q ⟨G, ρ, R, q⟩ => ⟨G, ρ, R, h.mono ρ _ _ (fun d ρ1 q v G1 H1 R1 l r => ?_) q⟩⟩
  cases d with
  | bool b =>
    cases r
    exact ⟨b, rfl, q G1 H1 R1 l⟩
  | _ => exact q.elim
theorem st_cmp {op : CmpOp} {r : R2} {o : O2} (hr : OpR X (compareOp op) r) (ho : Op2 K (pE K) r o) (ha : SE K (fE K) X a ma) (hb : SE K (fV K) X b mb) (hm : behindInMarks op b = false) : ST K X (.Compare a [op] [b] pos) (mTest (mOp o ma mb)) := by
  refine ⟨mo_test (mo_op ho.mono ha.mono hb.mono), pt_weak (pt_cmpR hr ha.pe hb.pe hm) fun σ H Q ⟨G, ρ, R, q⟩ => ?_⟩
  refine t_op (φ := fE K) ho embE ha hb σ H _ ⟨G, ρ, R, mo_op ho.mono ha.mono hb.mono ρ _ _ (fun d ρ1 q v G1 H1 R1 l r => ?_) q⟩
  cases d with
  | bool b =>
    cases r
    exact ⟨b, rfl, q G1 H1 R1 l⟩
  | _ => exact q.elim
def mNot (t : MT) : MT := fun ρ k => t ρ fun b ρ1 => k (!b) ρ1
def mAnd (t u : MT) : MT := fun ρ k => t ρ fun b ρ1 => if b = true then u ρ1 k else k false ρ1
def mOr (t u : MT) : MT := fun ρ k => t ρ fun b ρ1 => if b = true then k true ρ1 else u ρ1 k
variable {tm um : MT}
theorem st_not (h : ST K X a tm) : ST K X (.UnaryOp .Not a pos) (mNot tm) :=
  ⟨fun ρ k k' w => h.mono ρ _ _ fun b ρ1 => w _ _, pt_weak (pt_not h.pt) fun σ H Q ⟨G, ρ, R, q⟩ => ⟨G, ρ, R, q⟩⟩
structure SW (K : PySem.W.Frag) (X : Cx) (e : Expr) (m : MT) : Prop where
  mono : Mo m
  pw : PW X e (tT K m)
theorem pw_weak {e : Expr} {t t' : TT} (h : PW X e t) (w : ∀ σ H Q, t' σ H Q → t σ H Q) : PW X e t' := ⟨fun wh pins s σ H Q I q => h.run wh pins s σ H Q I (w σ H Q q)⟩
theorem sw_and1 (h : ST K X a tm) : SW K X (.BoolOp .And [a] pos) tm := ⟨h.mono, pw_and1 h.pt⟩
theorem sw_or1 (h : ST K X a tm) : SW K X (.BoolOp .Or [a] pos) tm := ⟨h.mono, pw_or1 h.pt⟩
theorem mo_and (h : Mo tm) (g : Mo um) : Mo (mAnd tm um) := fun ρ k k' w => h ρ _ _ fun c ρ1 q => by
  cases c
  · exact w _ _ q
  · exact g ρ1 _ _ w q
theorem mo_or (h : Mo tm) (g : Mo um) : Mo (mOr tm um) := fun ρ k k' w => h ρ _ _ fun c ρ1 q => by
  cases c
  · exact g ρ1 _ _ w q
  · exact w _ _ q
theorem t_and (h : Mo tm) (g : Mo um) (σ : L2.St) (H : Hp) (Q : Bool → Hp → Prop) (q : tT K (mAnd tm um) σ H Q) : tAnd (tT K tm) (tT K um) σ H Q := by
  obtain ⟨G, ρ, R, q⟩ := q
  refine ⟨G, ρ, R, h ρ _ _ (fun c ρ1 q G1 H1 R1 l => ?_) q⟩
  cases c
  · exact q G1 H1 R1 l
  · exact ⟨G1, ρ1, R1, g ρ1 _ _ (fun b ρ2 q G2 H2 R2 l2 => q G2 H2 R2 (l.trans l2)) q⟩
theorem t_or (h : Mo tm) (g : Mo um) (σ : L2.St) (H : Hp) (Q : Bool → Hp → Prop) (q : tT K (mOr tm um) σ H Q) : tOr (tT K tm) (tT K um) σ H Q := by
  obtain ⟨G, ρ, R, q⟩ := q
  refine ⟨G, ρ, R, h ρ _ _ (fun c ρ1 q G1 H1 R1 l => ?_) q⟩
  cases c
  · exact ⟨G1, ρ1, R1, g ρ1 _ _ (fun b ρ2 q G2 H2 R2 l2 => q G2 H2 R2 (l.trans l2)) q⟩
  · exact q G1 H1 R1 l
variable {rest : List Expr}
theorem sw_and (h : ST K X a tm) (g : SW K X (.BoolOp .And (b :: rest) pos) um) : SW K X (.BoolOp .And (a :: b :: rest) pos) (mAnd tm um) := ⟨mo_and h.mono g.mono, pw_weak (pw_and h.pt g.pw) (t_and h.mono g.mono)⟩
theorem sw_or (h : ST K X a tm) (g : SW K X (.BoolOp .Or (b :: rest) pos) um) : SW K X (.BoolOp .Or (a :: b :: rest) pos) (mOr tm um) := ⟨mo_or h.mono g.mono, pw_weak (pw_or h.pt g.pw) (t_or h.mono g.mono)⟩
theorem SW.st {e : Expr} (h : SW K X e tm) : ST K X e tm := ⟨h.mono, h.pw.pt⟩
/-! and, or, not as values: of truths -/
def mAndV (ma mb : ME) : ME := fun ρ k => ma ρ fun d ρ1 => match d with
  | .bool true => mb ρ1 k
  | .bool false => k (.bool false) ρ1
  | _ => False
def mOrV (ma mb : ME) : ME := fun ρ k => ma ρ fun d ρ1 => match d with
  | .bool true => k (.bool true) ρ1
  | .bool false => mb ρ1 k
  | _ => False
def mNotV (ma : ME) : ME := fun ρ k => ma ρ fun d ρ1 => match d with
  | .bool b => k (.bool !b) ρ1
  | _ => False
theorem se_one {op} (h : SE K φ X a ma) : SE K φ X (.BoolOp op [a] pos) ma := ⟨h.mono, pe_one h.pe⟩
theorem se_and (h : SE K (fE K) X a ma) (g : SE K (fE K) X (.BoolOp .And (b :: rest) pos) mb) : SE K (fE K) X (.BoolOp .And (a :: b :: rest) pos) (mAndV ma mb) := by
  constructor
  · intro ρ k k' w
    refine h.mono ρ _ _ fun d ρ1 q => ?_
    rcases d with _ | (_ | _) | _ | _ | _ | _ | _ | _
    all_goals first | exact q.elim | exact w _ _ q | exact g.mono ρ1 _ _ w q
  · refine pe_weak (pe_and h.pe g.pe) fun σ H Q ⟨G, ρ, R, q⟩ => ⟨G, ρ, R, h.mono ρ _ _ (fun d ρ1 q v G1 H1 R1 l r => ?_) q⟩
    rcases d with _ | (_ | _) | _ | _ | _ | _ | _ | _
    all_goals first | exact q.elim | skip
    · cases r
      exact ⟨false, rfl, q _ G1 H1 R1 l (.bl false)⟩
    · cases r
      exact ⟨true, rfl, G1, ρ1, R1, g.mono ρ1 _ _ (fun d ρ2 q v G2 H2 R2 l2 => q v G2 H2 R2 (l.trans l2)) q⟩
theorem se_or (h : SE K (fE K) X a ma) (g : SE K (fE K) X (.BoolOp .Or (b :: rest) pos) mb) : SE K (fE K) X (.BoolOp .Or (a :: b :: rest) pos) (mOrV ma mb) := by
  constructor
  · intro ρ k k' w
    refine h.mono ρ _ _ fun d ρ1 q => ?_
    rcases d with _ | (_ | _) | _ | _ | _ | _ | _ | _
    all_goals first | exact q.elim | exact w _ _ q | exact g.mono ρ1 _ _ w q
  · refine pe_weak (pe_or h.pe g.pe) fun σ H Q ⟨G, ρ, R, q⟩ => ⟨G, ρ, R, h.mono ρ _ _ (fun d ρ1 q v G1 H1 R1 l r => ?_) q⟩
    rcases d with _ | (_ | _) | _ | _ | _ | _ | _ | _
    all_goals first | exact q.elim | skip
    · cases r
      exact ⟨false, rfl, G1, ρ1, R1, g.mono ρ1 _ _ (fun d ρ2 q v G2 H2 R2 l2 => q v G2 H2 R2 (l.trans l2)) q⟩
    · cases r
      exact ⟨true, rfl, q _ G1 H1 R1 l (.bl true)⟩
theorem se_not (h : SE K (fE K) X a ma) : SE K (fE K) X (.UnaryOp .Not a pos) (mNotV ma) := by
  constructor
  · intro ρ k k' w
    refine h.mono ρ _ _ fun d ρ1 q => ?_
    cases d <;> first | exact q.elim | exact w _ _ q
  · refine pe_weak (pe_not h.pe) fun σ H Q ⟨G, ρ, R, q⟩ => ⟨G, ρ, R, h.mono ρ _ _ (fun d ρ1 q v G1 H1 R1 l r => ?_) q⟩
    cases d <;> first | exact q.elim | skip
    cases r
    exact ⟨_, rfl, q _ G1 H1 R1 l (.bl _)⟩
def mIfE (t : MT) (ma mb : ME) : ME := fun ρ k => t ρ fun c ρ1 => if c = true then ma ρ1 k else mb ρ1 k
theorem se_if {c : Expr} (hc : ST K X c tm) (h : SE K φ X a ma) (g : SE K φ X b mb) (hφ : ∀ (σ : L2.St) (ρ ρ1 ρ2 : Cs) (G H G1 H1 G2 H2 : Hp) (v : V) (d : D), Lk 0 σ G H ρ σ G1 H1 ρ1 → φ H1 σ ρ2 G2 H2 v d → φ H σ ρ2 G2 H2 v d) : SE K φ X (.IfExp c a b pos) (mIfE tm ma mb) := by
  constructor
  · intro ρ k k' w
    refine hc.mono ρ _ _ fun c ρ1 q => ?_
    cases c
    · exact g.mono ρ1 _ _ w q
    · exact h.mono ρ1 _ _ w q
  · refine pe_weak (pe_ifExp hc.pt h.pe g.pe) fun σ H Q ⟨G, ρ, R, q⟩ => ⟨G, ρ, R, hc.mono ρ _ _ (fun c ρ1 q G1 H1 R1 l => ?_) q⟩
    cases c
    · exact ⟨G1, ρ1, R1, g.mono ρ1 _ _ (fun d ρ2 q v G2 H2 R2 l2 r => q v G2 H2 R2 (l.trans l2) (hφ σ ρ ρ1 ρ2 G H G1 H1 G2 H2 v d l r)) q⟩
    · exact ⟨G1, ρ1, R1, h.mono ρ1 _ _ (fun d ρ2 q v G2 H2 R2 l2 r => q v G2 H2 R2 (l.trans l2) (hφ σ ρ ρ1 ρ2 G H G1 H1 G2 H2 v d l r)) q⟩
theorem keepE : ∀ (σ : L2.St) (ρ ρ1 ρ2 : Cs) (G H G1 H1 G2 H2 : Hp) (v : V) (d : D), Lk 0 σ G H ρ σ G1 H1 ρ1 → fE K H1 σ ρ2 G2 H2 v d → fE K H σ ρ2 G2 H2 v d := fun _ _ _ _ _ _ _ _ _ _ _ _ _ h => h
/-! ### arguments, displays -/
def aNil : MA := fun ρ k => k [] ρ
def aCons (m : ME) (r : MA) : MA := fun ρ k => m ρ fun d ρ1 => r ρ1 fun ds ρ2 => k (d :: ds) ρ2
variable {es : List Expr} {mr : MA}
theorem sa_nil : SA K X [] aNil := ⟨fun ρ k k' w => w _ _, pa_weak pa_nil fun σ H Q ⟨G, ρ, R, q⟩ => q [] G H R .refl .nil⟩
theorem mo_cons (h : Mo ma) (g : Mo mr) : Mo (aCons ma mr) := fun ρ k k' w => h ρ _ _ fun d ρ1 => g ρ1 _ _ fun ds ρ2 => w _ _
theorem t_cons (h : Mo ma) (g : Mo mr) (σ : L2.St) (H : Hp) (Q : List V → Hp → Prop) (q : tA K (aCons ma mr) σ H Q) : tCons (tE K (fE K) ma) (tA K mr) σ H Q := by
  obtain ⟨G, ρ, R, q⟩ := q
  exact ⟨G, ρ, R, h ρ _ _ (fun d ρ1 q v G1 H1 R1 l r => ⟨G1, ρ1, R1, g ρ1 _ _ (fun ds ρ2 q vs G2 H2 R2 l2 rs => q _ G2 H2 R2 (l.trans l2) (.cons (rp_same l2.st.gg r) rs)) q⟩) q⟩
theorem sa_cons (h : SE K (fE K) X a ma) (g : SA K X es mr) (hs : starEach (a :: es) X.env = (false, eval a X.env) :: starEach es X.env := by rfl) : SA K X (a :: es) (aCons ma mr) :=
  ⟨mo_cons h.mono g.mono, pa_weak (pa_cons h.pe g.pa hs) (t_cons h.mono g.mono)⟩
/-- an object of one's own making, outside of G -/
theorem stp_new {G H : Hp} {p : Addr} {o : HO} (h : H p = none) : Stp Pure G H G (upd H p o) :=
  ⟨Same.refl G, fun a u _ e => (upd_ne (ne_of_none e h)).trans e, fun _ _ _ _ g _ => g, fun a e => by
    by_cases q : a = p
    · subst q; exact h
    · rw [upd_ne q] at e; exact e⟩
/-- .. within G -/
theorem stp_newG {G H : Hp} {p : Addr} {o : HO} (s : Same G H) (h : H p = none) : Stp Pure G H (upd G p o) (upd H p o) :=
  ⟨same_upd (s.free h), fun a u _ e => (upd_ne (ne_of_none e h)).trans e, fun a u _ e g _ => (upd_ne (ne_of_none e h)).trans g, fun a e => by
    by_cases q : a = p
    · subst q; exact h
    · rw [upd_ne q] at e; exact e⟩
theorem same_new2 {G H : Hp} {p : Addr} {o : HO} (s : Same G H) (h : H p = none) : Same (upd G p o) (upd H p o) := fun b u e => by
  by_cases q : b = p
  · subst q; rw [upd_same] at e ⊢; exact e
  · rw [upd_ne q] at e ⊢; exact s b u e
theorem same_new1 {G H : Hp} {p : Addr} {o : HO} (s : Same G H) (h : H p = none) : Same G (upd H p o) := fun b u e => (upd_ne (ne_of_none (s b u e) h)).trans (s b u e)
def mTup (m : MA) : ME := fun ρ k => m ρ fun ds ρ1 => ds.length ≤ sizeLine ∧ k (.tuple .mad ds) ρ1
def mLst (m : MA) : ME := fun ρ k => m ρ fun ds ρ1 => ds.length ≤ sizeLine ∧ k (.list ds) ρ1
theorem se_tup {x1} (h : SA K X es mr) : SE K (fE K) X (.Tuple es x1 pos) (mTup mr) := by
  refine ⟨fun ρ k k' w => h.mono ρ _ _ fun ds ρ1 q => ⟨q.1, w _ _ q.2⟩, pe_weak (pe_tup h.pa) fun σ H Q ⟨G, ρ, R, q⟩ => ⟨G, ρ, R, h.mono ρ _ _ (fun ds ρ1 q vs G1 H1 R1 l rs => ⟨by rw [rps_len rs]; exact q.1, fun p np => ?_⟩) q⟩⟩
  have st := stp_newG (o := .tup vs) R1.gh np
  exact q.2 _ _ _ (R1.pure st (same_new2 R1.gh np)) (l.trans (.pure st)) (.tup upd_same (rps_same st.gg rs))
theorem se_lst (h : SA K X es mr) : SE K (fF K) X (.List es pos) (mLst mr) := by
  refine ⟨fun ρ k k' w => h.mono ρ _ _ fun ds ρ1 q => ⟨q.1, w _ _ q.2⟩, pe_weak (pe_lst h.pa) fun σ H Q ⟨G, ρ, R, q⟩ => ⟨G, ρ, R, h.mono ρ _ _ (fun ds ρ1 q vs G1 H1 R1 l rs => ⟨by rw [rps_len rs]; exact q.1, fun p np => ?_⟩) q⟩⟩
  have st := stp_new (G := G1) (o := .lst vs) np
  exact q.2 _ _ _ (R1.pure st (same_new1 R1.gh np)) (l.trans (.pure st)) ⟨p, _, rfl, l.st.dom p np, fun w => R1.old w np, upd_same, R1.gh.free np, .lst rs⟩
end
end Dl

set_option Elab.async false
set_option linter.all false
set_option maxRecDepth 100000
set_option maxHeartbeats 4000000
namespace Dl
open PySem PySem.Spec PyProof.Rows L2
theorem Lk.up {n : Nat} {σ : L2.St} {G H G' H' : Hp} {ρ ρ' : Cs} (l : Lk 0 σ G H ρ σ G' H' ρ') : Lk n σ G H ρ σ G' H' ρ' := ⟨l.st, l.sb, fun _ _ => rfl⟩
section
variable {K : PySem.W.Frag} {X : Cx} {n : Nat} {st : Stmt} {sts : List Stmt} {ms mu : MS} {e c : Expr} {m : ME} {tm : MT} {pos : Pos}
/-! ### statements -/
def sNext : MS := fun E ρ => E.nx ρ
def sSeq (a b : MS) : MS := fun E ρ => a { E with nx := b E } ρ
def sRet (m : ME) : MS := fun E ρ => m ρ E.rt
def sRetN : MS := fun E ρ => E.rt .none ρ
def sDrop (m : ME) : MS := fun E ρ => m ρ fun _ ρ1 => E.nx ρ1
def sIf (t : MT) (a b : MS) : MS := fun E ρ => t ρ fun c ρ1 => if c = true then a E ρ1 else b E ρ1
def sBreak : MS := fun E ρ => E.bk ρ
def sCont : MS := fun E ρ => E.ct ρ
def sSet (i : Nat) (m : ME) : MS := fun E ρ => m ρ fun d ρ1 => E.nx (ρ1.set i (.fro d))
def sSetO (i : Nat) (m : ME) : MS := fun E ρ => m ρ fun d ρ1 => E.nx (ρ1.set i (.own d))
theorem mos_seq (h : MoS ms) (g : MoS mu) : MoS (sSeq ms mu) := fun ρ E E' a b c d => h ρ _ _ (fun ρ1 => g ρ1 _ _ a b c d) b c d
theorem sb_nil : SB K n X [] sNext := ⟨fun ρ E E' a _ _ _ => a ρ, pss_weak pss_nil fun T σ H ⟨G, ρ, E, R, q, a, _⟩ => a σ G H ρ R .refl q⟩
theorem t_seq (h : MoS ms) (g : MoS mu) (T : Ends) (σ : L2.St) (H : Hp) (q : tS K n (sSeq ms mu) T σ H) : tSeq (tS K n ms) (tS K n mu) T σ H := by
  obtain ⟨G, ρ, E, R, q, a, b, c, d⟩ := q
  refine ⟨G, ρ, _, R, q, fun σ1 G1 H1 ρ1 R1 l1 q1 => ?_, b, c, d⟩
  exact ⟨G1, ρ1, E, R1, q1, fun σ2 G2 H2 ρ2 R2 l2 => a σ2 G2 H2 ρ2 R2 (l1.trans l2), fun v d σ2 G2 H2 ρ2 R2 l2 => b v d σ2 G2 H2 ρ2 R2 (l1.trans l2), fun σ2 G2 H2 ρ2 R2 l2 => c σ2 G2 H2 ρ2 R2 (l1.trans l2), fun σ2 G2 H2 ρ2 R2 l2 => d σ2 G2 H2 ρ2 R2 (l1.trans l2)⟩
theorem sb_cons (h : SS K n X st ms) (g : SB K n X sts mu) : SB K n X (st :: sts) (sSeq ms mu) := ⟨mos_seq h.mono g.mono, pss_weak (pss_cons h.ps g.ps) (t_seq h.mono g.mono)⟩
theorem sb_one (h : SS K n X st ms) : SB K n X [st] ms := ⟨h.mono, pss_one h.ps⟩
theorem ss_pass : SS K n X (.Pass pos) sNext := ⟨fun ρ E E' a _ _ _ => a ρ, ps_weak ps_pass fun T σ H ⟨G, ρ, E, R, q, a, _⟩ => a σ G H ρ R .refl q⟩
theorem ss_doc {x j pos pos'} : SS K n X (.Expr (.Constant (.str x) j pos) pos') sNext := ⟨fun ρ E E' a _ _ _ => a ρ, ps_weak ps_doc fun T σ H ⟨G, ρ, E, R, q, a, _⟩ => a σ G H ρ R .refl q⟩
theorem ss_break : SS K n X (.Break pos) sBreak := ⟨fun ρ E E' _ _ a _ => a ρ, ps_weak ps_break fun T σ H ⟨G, ρ, E, R, q, _, _, a, _⟩ => a σ G H ρ R .refl q⟩
theorem ss_continue : SS K n X (.Continue pos) sCont := ⟨fun ρ E E' _ _ _ a => a ρ, ps_weak ps_continue fun T σ H ⟨G, ρ, E, R, q, _, _, _, a⟩ => a σ G H ρ R .refl q⟩
theorem ss_ret (h : SE K (fE K) X e m) : SS K n X (.Return (some e) pos) (sRet m) :=
  ⟨fun ρ E E' _ b _ _ => h.mono ρ _ _ b, ps_weak (ps_ret h.pe) fun T σ H ⟨G, ρ, E, R, q, _, b, _⟩ => ⟨G, ρ, R, h.mono ρ _ _ (fun d ρ1 q v G1 H1 R1 l r => b v d σ G1 H1 ρ1 R1 l.up r q) q⟩⟩
theorem ss_retN : SS K n X (.Return none pos) sRetN := ⟨fun ρ E E' _ b _ _ => b _ ρ, ps_weak ps_retN fun T σ H ⟨G, ρ, E, R, q, _, b, _⟩ => b .non .none σ G H ρ R .refl .non q⟩
theorem ss_expr {φ : Fl} (h : SE K φ X e m) (hs : swapsWith e none pos.line X.env = pure false := by rfl) : SS K n X (.Expr e pos) (sDrop m) :=
  ⟨fun ρ E E' a _ _ _ => h.mono ρ _ _ fun _ ρ1 => a ρ1, ps_weak (ps_expr h.pe hs) fun T σ H ⟨G, ρ, E, R, q, a, _⟩ => ⟨G, ρ, R, h.mono ρ _ _ (fun d ρ1 q v G1 H1 R1 l r => a σ G1 H1 ρ1 R1 l.up q) q⟩⟩
theorem ss_if {a b : List Stmt} (hc : ST K X c tm) (h : SB K n X a ms) (g : SB K n X b mu) : SS K n X (.If c a b pos) (sIf tm ms mu) := by
  refine ⟨fun ρ E E' a b c d => hc.mono ρ _ _ fun t ρ1 q => ?_, ps_weak (ps_if hc.pt h.ps g.ps) fun T σ H ⟨G, ρ, E, R, q, a, b, c, d⟩ => ⟨G, ρ, R, hc.mono ρ _ _ (fun t ρ1 q G1 H1 R1 l => ?_) q⟩⟩
  · cases t
    · exact g.mono ρ1 _ _ a b c d q
    · exact h.mono ρ1 _ _ a b c d q
  · have l := l.up (n := n)
    cases t
    · exact ⟨G1, ρ1, E, R1, q, fun σ2 G2 H2 ρ2 R2 l2 => a σ2 G2 H2 ρ2 R2 (l.trans l2), fun v d σ2 G2 H2 ρ2 R2 l2 => b v d σ2 G2 H2 ρ2 R2 (l.trans l2), fun σ2 G2 H2 ρ2 R2 l2 => c σ2 G2 H2 ρ2 R2 (l.trans l2), fun σ2 G2 H2 ρ2 R2 l2 => d σ2 G2 H2 ρ2 R2 (l.trans l2)⟩
    · exact ⟨G1, ρ1, E, R1, q, fun σ2 G2 H2 ρ2 R2 l2 => a σ2 G2 H2 ρ2 R2 (l.trans l2), fun v d σ2 G2 H2 ρ2 R2 l2 => b v d σ2 G2 H2 ρ2 R2 (l.trans l2), fun σ2 G2 H2 ρ2 R2 l2 => c σ2 G2 H2 ρ2 R2 (l.trans l2), fun σ2 G2 H2 ρ2 R2 l2 => d σ2 G2 H2 ρ2 R2 (l.trans l2)⟩
/-! stores -/
theorem set_ne {α : Type} {l : List α} {i j : Nat} {x : α} (h : j ≠ i) : (l.set i x)[j]? = l[j]? := List.getElem?_set_ne (fun z => h z.symm)
theorem ow_set {σ : L2.St} {ρ : Cs} {i : Nat} {v : V} {c : Cell} {p : Addr} (hl : σ.length = ρ.length) (w : Ow (σ.set i (some v)) (ρ.set i c) p) : Ow σ ρ p ∨ (v = .ref p ∧ ∃ d, c = .own d) := by
  obtain ⟨j, d, h1, h2⟩ := w
  rcases set_get h1 with ⟨rfl, hj, z⟩ | ⟨ne, z⟩
  · rw [List.getElem?_set_self (by omega)] at h2
    cases h2
    exact .inr ⟨rfl, d, z.symm⟩
  · rw [set_ne ne] at h2
    exact .inl ⟨j, d, z, h2⟩
theorem Rel.set {σ : L2.St} {G H : Hp} {ρ : Cs} {i : Nat} {v : V} {d : D} (R : Rel K σ G H ρ) (r : Rp K G v d) : Rel K (σ.set i (some v)) G H (ρ.set i (.fro d)) := by
  have hl := R.len
  refine ⟨R.gh, by rw [List.length_set, List.length_set]; exact R.len, fun j c q => ?_, fun j c q => ?_, fun j l a c c' q q' h h' => ?_⟩
  · rcases set_get q with ⟨rfl, hj, z⟩ | ⟨ne, z⟩
    · cases z
      exact ⟨v, by rw [List.getElem?_set_self (by omega)], r⟩
    · rw [set_ne ne]; exact R.fro j c z
  · rcases set_get q with ⟨rfl, hj, z⟩ | ⟨ne, z⟩
    · cases z
    · rw [set_ne ne]; exact R.own j c z
  · rcases set_get q with ⟨_, _, z⟩ | ⟨ne, z⟩
    · cases z
    · rcases set_get q' with ⟨_, _, z'⟩ | ⟨ne', z'⟩
      · cases z'
      · rw [set_ne ne] at h
        rw [set_ne ne'] at h'
        exact R.apart j l a c c' z z' h h'
theorem Rel.setO {σ : L2.St} {G H : Hp} {ρ : Cs} {i : Nat} {p : Addr} {o : HO} {d : D} (R : Rel K σ G H ρ) (hp : H p = some o) (gp : G p = none) (nw : ¬ Ow σ ρ p) (r : ObR K G o d) : Rel K (σ.set i (some (.ref p))) G H (ρ.set i (.own d)) := by
  have hl := R.len
  refine ⟨R.gh, by rw [List.length_set, List.length_set]; exact R.len, fun j c q => ?_, fun j c q => ?_, fun j l a c c' q q' h h' => ?_⟩
  · rcases set_get q with ⟨rfl, hj, z⟩ | ⟨ne, z⟩
    · cases z
    · rw [set_ne ne]; exact R.fro j c z
  · rcases set_get q with ⟨rfl, hj, z⟩ | ⟨ne, z⟩
    · cases z
      exact ⟨p, o, by rw [List.getElem?_set_self (by omega)], hp, gp, r⟩
    · rw [set_ne ne]; exact R.own j c z
  · rcases set_get q with ⟨e1, hj, z⟩ | ⟨ne, z⟩
    · rcases set_get q' with ⟨e2, _, z'⟩ | ⟨ne', z'⟩
      · exact e1.trans e2.symm
      · subst e1
        rw [set_ne ne'] at h'
        rw [List.getElem?_set_self (by omega)] at h
        cases h
        exact (nw ⟨l, c', z', h'⟩).elim
    · rcases set_get q' with ⟨e2, hj, z'⟩ | ⟨ne', z'⟩
      · subst e2
        rw [set_ne ne] at h
        rw [List.getElem?_set_self (by omega)] at h'
        cases h'
        exact (nw ⟨j, c, z, h⟩).elim
      · rw [set_ne ne] at h
        rw [set_ne ne'] at h'
        exact R.apart j l a c c' z z' h h'
theorem Lk.set {σ : L2.St} {G H G' H' : Hp} {ρ ρ' : Cs} {i : Nat} {v : V} {d : D} (l : Lk n σ G H ρ σ G' H' ρ') (hl : σ.length = ρ'.length) (hi : n ≤ i) : Lk n σ G H ρ (σ.set i (some v)) G' H' (ρ'.set i (.fro d)) :=
  ⟨l.st, fun p w => by
    rcases ow_set hl w with z | ⟨_, _, z⟩
    · exact l.sb p z
    · exact (nomatch z), fun j hj => set_ne (by omega)⟩
theorem Lk.setO {σ : L2.St} {G H G' H' : Hp} {ρ ρ' : Cs} {i : Nat} {p : Addr} {d : D} (l : Lk n σ G H ρ σ G' H' ρ') (hl : σ.length = ρ'.length) (hi : n ≤ i) (h0 : H p = none) : Lk n σ G H ρ (σ.set i (some (.ref p))) G' H' (ρ'.set i (.own d)) :=
  ⟨l.st, fun q w => by
    rcases ow_set hl w with z | ⟨z, _, _⟩
    · exact l.sb q z
    · cases z
      exact .inr h0, fun j hj => set_ne (by omega)⟩
theorem ss_set {i : Nat} {x : Str} {pos' : Pos} (hn : n ≤ i) (hN : X.N.Nodup) (hi : X.N[i]? = some x) (hx : Loc X.env.scope x) (h : SE K (fE K) X e m) (hs : swapsWith e (some (.Name x pos')) pos.line X.env = pure false := by rfl) (hf : X.fn x = true ∨ X.env.scope.names.lookup x = some .local := by first | exact .inl rfl | exact .inr rfl | assumption) :
    SS K n X (.Assign [.Name x pos'] e pos) (sSet i m) :=
  ⟨fun ρ E E' a _ _ _ => h.mono ρ _ _ fun _ ρ1 => a _, ps_weak (ps_set hN hi hx h.pe hs hf) fun T σ H ⟨G, ρ, E, R, q, a, _⟩ => ⟨G, ρ, R, h.mono ρ _ _ (fun d ρ1 q v G1 H1 R1 l r => a _ G1 H1 _ (R1.set r) (l.up.set R1.len hn) q) q⟩⟩
theorem ss_setO {i : Nat} {x : Str} {pos' : Pos} (hn : n ≤ i) (hN : X.N.Nodup) (hi : X.N[i]? = some x) (hx : Loc X.env.scope x) (h : SE K (fF K) X e m) (hs : swapsWith e (some (.Name x pos')) pos.line X.env = pure false := by rfl) (hf : X.fn x = true ∨ X.env.scope.names.lookup x = some .local := by first | exact .inl rfl | exact .inr rfl | assumption) :
    SS K n X (.Assign [.Name x pos'] e pos) (sSetO i m) := by
  refine ⟨fun ρ E E' a _ _ _ => h.mono ρ _ _ fun _ ρ1 => a _, ps_weak (ps_set hN hi hx h.pe hs hf) fun T σ H ⟨G, ρ, E, R, q, a, _⟩ => ⟨G, ρ, R, h.mono ρ _ _ (fun d ρ1 q v G1 H1 R1 l r => ?_) q⟩⟩
  obtain ⟨p, o, rfl, h0, nw, hp, gp, ob⟩ := r
  exact a _ G1 H1 _ (R1.setO hp gp nw ob) (l.up.setO R1.len hn h0) q
/-! targets -/
abbrev MG := D → Cs → (Cs → Prop) → Prop
abbrev MGs := List D → Cs → (Cs → Prop) → Prop
/-- slots beside ts stay -/
def Ch (ts : List Nat) (σ σ' : L2.St) : Prop := σ'.length = σ.length ∧ ∀ j, j ∉ ts → σ'[j]? = σ[j]?
theorem Ch.refl {ts : List Nat} {σ : L2.St} : Ch ts σ σ := ⟨rfl, fun _ _ => rfl⟩
structure SG (K : PySem.W.Frag) (n : Nat) (ts : List Nat) (g : TG) (mg : MG) : Prop where
  mono : ∀ d ρ (k k' : Cs → Prop), (∀ ρ', k ρ' → k' ρ') → mg d ρ k → mg d ρ k'
  run : ∀ (σ : L2.St) (G H : Hp) (ρ : Cs) (v : V) (d : D) (Q : L2.St → Hp → Prop), Rel K σ G H ρ → Rp K G v d → mg d ρ (fun ρ' => ∀ σ', Rel K σ' G H ρ' → Lk n σ G H ρ σ' G H ρ' → Ch ts σ σ' → Q σ' H) → g v σ H Q
structure SGs (K : PySem.W.Frag) (n : Nat) (ts : List Nat) (g : TGs) (mg : MGs) : Prop where
  mono : ∀ d ρ (k k' : Cs → Prop), (∀ ρ', k ρ' → k' ρ') → mg d ρ k → mg d ρ k'
  run : ∀ (σ : L2.St) (G H : Hp) (ρ : Cs) (vs : List V) (ds : List D) (Q : L2.St → Hp → Prop), Rel K σ G H ρ → RpAll K G vs ds → mg ds ρ (fun ρ' => ∀ σ', Rel K σ' G H ρ' → Lk n σ G H ρ σ' G H ρ' → Ch ts σ σ' → Q σ' H) → g vs σ H Q
def mgName (i : Nat) : MG := fun d ρ k => k (ρ.set i (.fro d))
def mgNil : MGs := fun ds ρ k => match ds with
  | [] => k ρ
  | _ => False
def mgCons (g : MG) (gs : MGs) : MGs := fun ds ρ k => match ds with
  | d :: r => g d ρ fun ρ1 => gs r ρ1 k
  | [] => False
def mgTup (l : Nat) (gs : MGs) : MG := fun d ρ k => match d with
  | .tuple _ ds => ds.length = l ∧ gs ds ρ k
  | _ => False
theorem sg_name {i : Nat} (hn : n ≤ i) : SG K n [i] (gName i) (mgName i) := ⟨fun d ρ k k' w => w _, fun σ G H ρ v d Q R r q => q _ (R.set r) (Lk.refl.set R.len hn) ⟨List.length_set, fun j hj => set_ne (fun z => hj (by rw [z]; exact List.mem_singleton.mpr rfl))⟩⟩
theorem sgs_nil : SGs K n [] gNil mgNil := by
  constructor
  · intro d ρ k k' w
    cases d
    · exact w _
    · exact id
  · intro σ G H ρ vs ds Q R r q
    cases r
    · exact ⟨rfl, q σ R .refl .refl⟩
    · exact q.elim
theorem sgs_cons {g : TG} {gs : TGs} {mg : MG} {mgs : MGs} {ts us : List Nat} (h : SG K n ts g mg) (hs : SGs K n us gs mgs) : SGs K n (ts ++ us) (gCons g gs) (mgCons mg mgs) := by
  constructor
  · intro d ρ k k' w
    cases d
    · exact id
    · exact h.mono _ _ _ _ fun ρ1 => hs.mono _ _ _ _ w
  · intro σ G H ρ vs ds Q R r q
    cases r with
    | nil => exact q.elim
    | cons r rs =>
      refine ⟨_, _, rfl, h.run σ G H ρ _ _ _ R r (h.mono _ _ _ _ (fun ρ1 q σ1 R1 l1 c1 => ?_) q)⟩
      exact hs.run σ1 G H ρ1 _ _ Q R1 rs (hs.mono _ _ _ _ (fun ρ2 q σ2 R2 l2 c2 => q σ2 R2 (l1.trans l2) ⟨c2.1.trans c1.1, fun j hj => (c2.2 j fun z => hj (List.mem_append_right _ z)).trans (c1.2 j fun z => hj (List.mem_append_left _ z))⟩) q)
theorem sg_tup {gs : TGs} {mgs : MGs} {l : Nat} {ts : List Nat} (hs : SGs K n ts gs mgs) : SG K n ts (gTup K l gs) (mgTup l mgs) := by
  constructor
  · intro d ρ k k' w
    cases d <;> first | exact id | exact fun q => ⟨q.1, hs.mono _ _ _ _ w q.2⟩
  · intro σ G H ρ v d Q R r q
    cases d <;> first | exact q.elim | skip
    obtain ⟨p, xs, rfl, s, a, _⟩ := rp_tup r
    exact ⟨_, _, rfl, sqT_same R.gh s, by rw [rps_len a]; exact q.1, hs.run σ G H ρ _ _ Q R a q.2⟩
def sAsg (m : ME) (g : MG) : MS := fun E ρ => m ρ fun d ρ1 => g d ρ1 E.nx
theorem ss_asg {tg : Expr} {g : TG} {mg : MG} {ts : List Nat} (h : SE K (fE K) X e m) (hg : PG X tg g) (sg : SG K n ts g mg) (hs : swapsWithSole [tg] e pos.line X.env = pure false := by rfl) (hw : swappedStores [tg] e X.env = pure none := by rfl)
    (h1 : (assignEach [tg] X.env).map (·.2) = [assign tg X.env] := by rfl) : SS K n X (.Assign [tg] e pos) (sAsg m mg) :=
  ⟨fun ρ E E' a _ _ _ => h.mono ρ _ _ fun _ ρ1 => sg.mono _ _ _ _ a, ps_weak (ps_asg h.pe hg hs hw h1) fun T σ H ⟨G, ρ, E, R, q, a, _⟩ => ⟨G, ρ, R, h.mono ρ _ _ (fun d ρ1 q v G1 H1 R1 l r =>
    sg.run σ G1 H1 ρ1 v d _ R1 r (sg.mono _ _ _ _ (fun ρ2 q σ2 R2 l2 _ => a σ2 G1 H1 ρ2 R2 (l.up.trans l2) q) q)) q⟩⟩
/-! while -/
def sWhile (t : MT) (b : MS) : MS := fun E ρ => ∃ I : Nat → Cs → Prop, (∃ k, I k ρ) ∧ ∀ k ρ, I k ρ → t ρ fun c ρ1 => if c = true then b { E with nx := fun ρ' => ∃ k', k' < k ∧ I k' ρ', ct := fun ρ' => ∃ k', k' < k ∧ I k' ρ', bk := E.nx } ρ1 else E.nx ρ1
theorem ss_while {body : List Stmt} (hp : PassesOwn (model X.prog X.w) X.A X.env X.xe) (hc : ST K X c tm) (hb : SB K n X body ms) : SS K n X (.While c body [] pos) (sWhile tm ms) := by
  constructor
  · rintro ρ E E' a b c d ⟨I, h0, h⟩
    refine ⟨I, h0, fun k ρ hI => hc.mono ρ _ _ (fun t ρ1 q => ?_) (h k ρ hI)⟩
    cases t
    · exact a _ q
    · exact hb.mono ρ1 { E with nx := fun ρ' => ∃ k', k' < k ∧ I k' ρ', ct := fun ρ' => ∃ k', k' < k ∧ I k' ρ', bk := E.nx } _ (fun _ z => z) b a (fun _ z => z) q
  · refine ps_weak (ps_while hp hc.pt hb.ps) fun T σ H ⟨G, ρ, E, R, ⟨I, ⟨k0, h0⟩, h⟩, a, b, c, d⟩ => ?_
    refine ⟨fun k σ' H' => ∃ G' ρ', Rel K σ' G' H' ρ' ∧ Lk n σ G H ρ σ' G' H' ρ' ∧ I k ρ', ⟨k0, G, ρ, R, .refl, h0⟩, ?_⟩
    rintro k σ1 H1 ⟨G1, ρ1, R1, l1, hI⟩
    refine ⟨G1, ρ1, R1, hc.mono ρ1 _ _ (fun t ρ2 q G2 H2 R2 l2 => ?_) (h k ρ1 hI)⟩
    have l2 := l1.trans l2.up
    cases t
    · exact a σ1 G2 H2 ρ2 R2 l2 q
    · refine ⟨_, fun σ' H' z => z, G2, ρ2, _, R2, q, ?_, ?_, ?_, ?_⟩
      · exact fun σ3 G3 H3 ρ3 R3 l3 ⟨k', hk, hI'⟩ => ⟨k', hk, G3, ρ3, R3, l2.trans l3, hI'⟩
      · exact fun v d σ3 G3 H3 ρ3 R3 l3 => b v d σ3 G3 H3 ρ3 R3 (l2.trans l3)
      · exact fun σ3 G3 H3 ρ3 R3 l3 => a σ3 G3 H3 ρ3 R3 (l2.trans l3)
      · exact fun σ3 G3 H3 ρ3 R3 l3 ⟨k', hk, hI'⟩ => ⟨k', hk, G3, ρ3, R3, l2.trans l3, hI'⟩
/-! what is walked -/
/-- J walks the data xs while G' stands -/
def Wk (K : PySem.W.Frag) (J : It) (G : Hp) (xs : List D) : Prop := ∀ G' H', Same G G' → Same G' H' → (∀ i, i < xs.length → J.go i H') ∧ J.stop xs.length H' ∧
  ∀ i x H3, i < xs.length → J.yld i H' x H3 → ∃ G3 d, Same G3 H3 ∧ Stp Pure G' H' G3 H3 ∧ xs[i]? = some d ∧ Rp K G3 x d
abbrev MI := Cs → (List D → Cs → Prop) → Prop
def tI (K : PySem.W.Frag) (m : MI) : TI := fun σ H R => ∃ G ρ, Rel K σ G H ρ ∧ m ρ fun xs ρ' => ∀ J G' H', Rel K σ G' H' ρ' → Lk 0 σ G H ρ σ G' H' ρ' → Wk K J G' xs → R J H'
structure SI (K : PySem.W.Frag) (X : Cx) (tg iter : Expr) (m : MI) : Prop where
  mono : Mo m
  pi : PI X tg iter (tI K m)
theorem pi_weak {tg iter : Expr} {t t' : TI} (h : PI X tg iter t) (w : ∀ σ H R, t' σ H R → t σ H R) : PI X tg iter t' := ⟨fun pins s σ H R I q => h.run pins s σ H R I (w σ H R q)⟩
def mItems (f : D → Option (List D)) (m : ME) : MI := fun ρ k => m ρ fun d ρ1 => match f d with
  | some xs => k xs ρ1
  | none => False
theorem mo_items {f : D → Option (List D)} (h : Mo m) : Mo (mItems f m) := fun ρ k k' w => h ρ _ _ fun d ρ1 => by
  cases f d with
  | none => exact id
  | some xs => exact w _ _
def dLst : D → Option (List D)
  | .list xs => some xs
  | _ => none
def dTup : D → Option (List D)
  | .tuple _ xs => some xs
  | _ => none
theorem rps_get {G : Hp} : ∀ {vs : List V} {ds : List D} {i : Nat} {v : V}, RpAll K G vs ds → vs[i]? = some v → ∃ d, ds[i]? = some d ∧ Rp K G v d
  | _, _, _, _, .nil, h => by cases h
  | _, _, 0, _, .cons r _, h => by cases h; exact ⟨_, rfl, r⟩
  | _, _, i + 1, _, .cons _ rs, h => rps_get (i := i) rs h
theorem rps_get' {G : Hp} : ∀ {vs : List V} {ds : List D} {i : Nat} {d : D}, RpAll K G vs ds → ds[i]? = some d → ∃ v, vs[i]? = some v ∧ Rp K G v d
  | _, _, _, _, .nil, h => by cases h
  | _, _, 0, _, .cons r _, h => by cases h; exact ⟨_, rfl, r⟩
  | _, _, i + 1, _, .cons _ rs, h => rps_get' (i := i) rs h
theorem si_list {tg : Expr} (h : SE K (fE K) X e m) (hK : X.K = K) : SI K X tg e (mItems dLst m) := by
  refine ⟨mo_items h.mono, pi_weak (pi_list h.pe) fun σ H Q ⟨G, ρ, R, q⟩ => ⟨G, ρ, R, h.mono ρ _ _ (fun d ρ1 q v G1 H1 R1 l r => ?_) q⟩⟩
  subst hK
  cases d <;> first | exact q.elim | skip
  cases r with
  | lst s a =>
    refine ⟨_, rfl, ⟨_, .inl (rd_same R1.gh s)⟩, q _ G1 H1 R1 l fun G2 H2 g gh => ?_⟩
    have W := walk_list (K := X.K) (a := ‹Addr›) (xs := ‹List V›)
    have sh := gh
    have s2 : SqL X.K H2 ‹Addr› ‹List V› := .inl (rd_same gh (rd_same g s))
    have ln := rps_len a
    refine ⟨fun i hi => W.goes i H2 (by omega) s2, ln ▸ W.stops H2 s2, fun i x H3 hi y => ?_⟩
    obtain ⟨rfl, hx⟩ := W.yields i H2 x H3 (by omega) s2 y
    obtain ⟨d, hd, rd⟩ := rps_get a hx
    exact ⟨G2, d, gh, .refl, hd, rp_same g rd⟩
theorem si_tup {tg : Expr} (h : SE K (fE K) X e m) (hK : X.K = K) : SI K X tg e (mItems dTup m) := by
  refine ⟨mo_items h.mono, pi_weak (pi_tup h.pe) fun σ H Q ⟨G, ρ, R, q⟩ => ⟨G, ρ, R, h.mono ρ _ _ (fun d ρ1 q v G1 H1 R1 l r => ?_) q⟩⟩
  subst hK
  cases d <;> first | exact q.elim | skip
  obtain ⟨p, xs, rfl, s, a, _⟩ := rp_tup r
  refine ⟨_, rfl, ⟨_, sqT_same R1.gh s⟩, q _ G1 H1 R1 l fun G2 H2 g gh => ?_⟩
  have W := walk_tup (K := X.K) (a := p) (xs := xs)
  have s2 := sqT_same gh (sqT_same g s)
  have ln := rps_len a
  refine ⟨fun i hi => W.goes i H2 (by omega) s2, ln ▸ W.stops H2 s2, fun i x H3 hi y => ?_⟩
  obtain ⟨rfl, hx⟩ := W.yields i H2 x H3 (by omega) s2 y
  obtain ⟨d, hd, rd⟩ := rps_get a hx
  exact ⟨G2, d, gh, .refl, hd, rp_same g rd⟩
/-! for -/
def sForL (mg : MG) (b : MS) (E : Dn) : List D → Cs → Prop
  | [], ρ => E.nx ρ
  | x :: r, ρ => mg x ρ fun ρ1 => b { E with nx := sForL mg b E r, ct := sForL mg b E r, bk := E.nx } ρ1
def sFor (mi : MI) (mg : MG) (b : MS) : MS := fun E ρ => mi ρ fun xs ρ1 => sForL mg b E xs ρ1
theorem mos_forL {mg : MG} {g : TG} {ts : List Nat} (sg : SG K n ts g mg) (hb : MoS ms) {E E' : Dn} (a : ∀ ρ', E.nx ρ' → E'.nx ρ') (b : ∀ d ρ', E.rt d ρ' → E'.rt d ρ') : ∀ (xs : List D) (ρ : Cs), sForL mg ms E xs ρ → sForL mg ms E' xs ρ
  | [], ρ, h => a ρ h
  | x :: r, ρ, h => sg.mono _ _ _ _ (fun ρ1 => hb ρ1 { E with nx := sForL mg ms E r, ct := sForL mg ms E r, bk := E.nx } _ (mos_forL sg hb a b r) b a (mos_forL sg hb a b r)) h
theorem ss_for {tg iter : Expr} {body : List Stmt} {mi : MI} {g : TG} {mg : MG} {ts : List Nat} (hp : PassesOwn (model X.prog X.w) X.A X.env X.xe) (hc : X.calm = true) (hi : SI K X tg iter mi) (hg : PG X tg g) (sg : SG K n ts g mg) (hb : SB K n X body ms)
    (hs : ∀ x, foldedSetIterable iter X.env x = pure x := by intro _; rfl) : SS K n X (.For tg iter body [] pos) (sFor mi mg ms) := by
  refine ⟨fun ρ E E' a b _ _ => hi.mono ρ _ _ fun xs ρ1 => mos_forL sg hb.mono a b xs ρ1, ps_weak (ps_for hp hc hi.pi hg hb.ps hs) fun T σ H ⟨G, ρ, E, R, q, a, b, c, d⟩ => ⟨G, ρ, R, hi.mono ρ _ _ (fun xs ρ1 q J G1 H1 R1 l1 wk => ?_) q⟩⟩
  have l1 := l1.up (n := n)
  refine ⟨fun i k σ' H' => k = xs.length - i ∧ i ≤ xs.length ∧ ∃ G' ρ', Rel K σ' G' H' ρ' ∧ Same G1 G' ∧ Lk n σ G H ρ σ' G' H' ρ' ∧ sForL mg ms E (xs.drop i) ρ', ⟨_, rfl, Nat.zero_le _, G1, ρ1, R1, .refl _, l1, q⟩, ?_⟩
  rintro i k σ2 H2 ⟨rfl, hle, G2, ρ2, R2, g2, l2, q2⟩
  obtain ⟨w1, w2, w3⟩ := wk G2 H2 g2 R2.gh
  by_cases hlt : i < xs.length
  · refine .inr ⟨w1 i hlt, fun σ' H' => ∃ G' ρ', Rel K σ' G' H' ρ' ∧ Same G1 G' ∧ Lk n σ G H ρ σ' G' H' ρ' ∧ sForL mg ms E (xs.drop (i + 1)) ρ', fun σ' H' z => ⟨xs.length - (i + 1), by omega, rfl, hlt, z⟩, fun x H3 y => ?_⟩
    obtain ⟨G3, dx, gh3, st3, hx, rx⟩ := w3 i x H3 hlt y
    have R3 := R2.pure st3 gh3
    have l3 := l2.trans (Lk.pure (n := n) (ρ := ρ2) (σ := σ2) st3)
    have e : xs.drop i = dx :: xs.drop (i + 1) := by
      rw [List.drop_eq_getElem_cons hlt]
      rw [List.getElem?_eq_getElem hlt] at hx
      rw [Option.some.inj hx]
    rw [e] at q2
    refine sg.run σ2 G3 H3 ρ2 x dx _ R3 rx (sg.mono _ _ _ _ (fun ρ4 q4 σ4 R4 l4 _ => ?_) q2)
    have l4 := l3.trans l4
    refine ⟨G3, ρ4, _, R4, q4, ?_, ?_, ?_, ?_⟩
    · exact fun σ5 G5 H5 ρ5 R5 l5 q5 => ⟨G5, ρ5, R5, (g2.trans st3.gg).trans l5.st.gg, l4.trans l5, q5⟩
    · exact fun v d σ5 G5 H5 ρ5 R5 l5 => b v d σ5 G5 H5 ρ5 R5 (l4.trans l5)
    · exact fun σ5 G5 H5 ρ5 R5 l5 => a σ5 G5 H5 ρ5 R5 (l4.trans l5)
    · exact fun σ5 G5 H5 ρ5 R5 l5 q5 => ⟨G5, ρ5, R5, (g2.trans st3.gg).trans l5.st.gg, l4.trans l5, q5⟩
  · have e : i = xs.length := by omega
    subst e
    rw [List.drop_length] at q2
    exact .inl ⟨w2, a σ2 G2 H2 ρ2 R2 l2 q2⟩
end
end Dl

set_option Elab.async false
set_option linter.all false
set_option maxRecDepth 100000
set_option maxHeartbeats 4000000
namespace Dl
open PySem PySem.Spec PyProof.Rows L2
/-! ### comprehensions -/
def wipeC (ρ : Cs) : List Nat → Cs
  | [] => ρ
  | v :: vs => (wipeC ρ vs).set v .un
section
variable {K : PySem.W.Frag}
theorem Rel.un {σ : L2.St} {G H : Hp} {ρ : Cs} {i : Nat} (R : Rel K σ G H ρ) : Rel K (σ.set i none) G H (ρ.set i .un) := by
  refine ⟨R.gh, by rw [List.length_set, List.length_set]; exact R.len, fun j c q => ?_, fun j c q => ?_, fun j l a c c' q q' h h' => ?_⟩
  · rcases set_get q with ⟨_, _, z⟩ | ⟨ne, z⟩
    · cases z
    · rw [set_ne ne]; exact R.fro j c z
  · rcases set_get q with ⟨_, _, z⟩ | ⟨ne, z⟩
    · cases z
    · rw [set_ne ne]; exact R.own j c z
  · rcases set_get q with ⟨_, _, z⟩ | ⟨ne, z⟩
    · cases z
    · rcases set_get q' with ⟨_, _, z'⟩ | ⟨ne', z'⟩
      · cases z'
      · rw [set_ne ne] at h
        rw [set_ne ne'] at h'
        exact R.apart j l a c c' z z' h h'
theorem Rel.wipe {σ : L2.St} {G H : Hp} {ρ : Cs} (R : Rel K σ G H ρ) : ∀ vs : List Nat, Rel K (wipe σ vs) G H (wipeC ρ vs)
  | [] => R
  | v :: vs => (R.wipe vs).un
theorem ow_un {σ : L2.St} {ρ : Cs} {i : Nat} {p : Addr} (w : Ow (σ.set i none) (ρ.set i .un) p) : Ow σ ρ p := by
  obtain ⟨j, d, h1, h2⟩ := w
  rcases set_get h1 with ⟨_, _, z⟩ | ⟨ne, z⟩
  · cases z
  · rw [set_ne ne] at h2
    exact ⟨j, d, z, h2⟩
theorem ow_wipe {σ : L2.St} {ρ : Cs} {p : Addr} : ∀ {vs : List Nat}, Ow (wipe σ vs) (wipeC ρ vs) p → Ow σ ρ p
  | [], w => w
  | _ :: vs, w => ow_wipe (vs := vs) (ow_un w)
theorem Lk.wipe {σ0 σ : L2.St} {G0 H0 G H : Hp} {ρ0 ρ : Cs} (l : Lk 0 σ0 G0 H0 ρ0 σ G H ρ) (vs : List Nat) : Lk 0 σ0 G0 H0 ρ0 (wipe σ vs) G H (wipeC ρ vs) :=
  ⟨l.st, fun p w => l.sb p (ow_wipe w), fun _ h => absurd h (Nat.not_lt_zero _)⟩
/-- back from the block -/
theorem Rel.unwipe {σ : L2.St} {G H : Hp} {ρ : Cs} {vs : List Nat} (R : Rel K (L2.wipe σ vs) G H ρ) : Rel K σ G H ρ ∧ ∀ p, Ow σ ρ p → Ow (L2.wipe σ vs) ρ p := by
  have back : ∀ (i : Nat) (v : V), (L2.wipe σ vs)[i]? = some (some v) → σ[i]? = some (some v) := fun i v h => (wipe_some h).1
  refine ⟨⟨R.gh, by rw [← R.len, wipe_length], fun i d e => ?_, fun i d e => ?_, fun i j p d e h h' q q' => ?_⟩, fun p ⟨i, d, h1, h2⟩ => ?_⟩
  · obtain ⟨v, h, r⟩ := R.fro i d e
    exact ⟨v, back i v h, r⟩
  · obtain ⟨p, o, h, r⟩ := R.own i d e
    exact ⟨p, o, back i _ h, r⟩
  · obtain ⟨p1, o1, z1, _⟩ := R.own i d h
    obtain ⟨p2, o2, z2, _⟩ := R.own j e h'
    have e1 := back i _ z1
    have e2 := back j _ z2
    rw [q] at e1
    rw [q'] at e2
    cases e1
    cases e2
    exact R.apart i j p d e h h' z1 z2
  · obtain ⟨p1, o1, z1, _⟩ := R.own i d h1
    have e1 := back i _ z1
    rw [h2] at e1
    cases e1
    exact ⟨i, d, h1, z1⟩
theorem Rel.poke {σ : L2.St} {G H : Hp} {ρ : Cs} {p : Addr} {o : HO} (R : Rel K σ G H ρ) (gp : G p = none) (nw : ¬ Ow σ ρ p) : Rel K σ G (upd H p o) ρ := by
  refine ⟨fun b u e => (upd_ne (ne_of_none e gp)).trans (R.gh b u e), R.len, R.fro, fun i d e => ?_, R.apart⟩
  obtain ⟨q, u, h, hq, r⟩ := R.own i d e
  exact ⟨q, u, h, (upd_ne (fun z => nw (by subst z; exact ⟨i, d, e, h⟩))).trans hq, r⟩
theorem Lk.poke {n : Nat} {σ0 σ : L2.St} {G0 H0 G H : Hp} {ρ0 ρ : Cs} {p : Addr} {o : HO} (l : Lk n σ0 G0 H0 ρ0 σ G H ρ) (h0 : H0 p = none) : Lk n σ0 G0 H0 ρ0 σ G (upd H p o) ρ :=
  ⟨⟨l.st.gg, fun a u m e => (upd_ne (ne_of_none e h0)).trans (l.st.hh a u m e), l.st.fr, fun a e => by
    by_cases q : a = p
    · subst q; exact h0
    · rw [upd_ne q] at e; exact l.st.dom a e⟩, l.sb, l.pn⟩
theorem wipe_get {σ : L2.St} {j : Nat} : ∀ {vs : List Nat}, j ∉ vs → (wipe σ vs)[j]? = σ[j]?
  | [], _ => rfl
  | v :: vs, h => by
    unfold wipe
    rw [set_ne (fun z => h (by rw [z]; exact List.mem_cons_self))]
    exact wipe_get fun z => h (List.mem_cons_of_mem _ z)
theorem wipe_un {σ : L2.St} {j : Nat} : ∀ {vs : List Nat}, j ∈ vs → j < σ.length → (wipe σ vs)[j]? = some none
  | v :: vs, h, hl => by
    unfold wipe
    by_cases e : j = v
    · subst e
      exact List.getElem?_set_self (by rw [wipe_length]; exact hl)
    · rw [set_ne e]
      exact wipe_un ((List.mem_cons.mp h).resolve_left e) hl
theorem Ch.wipe {ts vs : List Nat} {σ σ' : L2.St} (c : Ch ts σ σ') (h : ∀ t ∈ ts, t ∈ vs) : L2.wipe σ' vs = L2.wipe σ vs := by
  apply List.ext_getElem?
  intro j
  by_cases hj : j ∈ vs
  · by_cases hl : j < σ.length
    · rw [wipe_un hj hl, wipe_un hj (by rw [c.1]; exact hl)]
    · rw [List.getElem?_eq_none (by rw [wipe_length, c.1]; omega), List.getElem?_eq_none (by rw [wipe_length]; omega)]
  · rw [wipe_get hj, wipe_get hj]
    exact c.2 j fun z => hj (h j z)
theorem wipe_wipe {σ : L2.St} {vs : List Nat} : wipe (wipe σ vs) vs = wipe σ vs :=
  Ch.wipe (ts := vs) ⟨wipe_length σ vs, fun j h => wipe_get h⟩ fun _ h => h
def mYes : MT := fun ρ k => k true ρ
structure STs (K : PySem.W.Frag) (X : Cx) (ifs : List Expr) (m : MT) : Prop where
  mono : Mo m
  pts : PTs X ifs (tT K m)
theorem pts_weak {X : Cx} {ifs : List Expr} {t t' : TT} (h : PTs X ifs t) (w : ∀ σ H Q, t' σ H Q → t σ H Q) : PTs X ifs t' := ⟨fun pins s σ H Q I q => h.run pins s σ H Q I (w σ H Q q)⟩
theorem sts_nil {X : Cx} : STs K X [] mYes := ⟨fun _ _ _ w => w _ _, pts_weak pts_nil fun σ H Q ⟨G, ρ, R, q⟩ => q G H R .refl⟩
theorem sts_one {X : Cx} {c : Expr} {m : MT} (h : ST K X c m) : STs K X [c] m := ⟨h.mono, pts_one h.pt⟩
def mLcL (mg : MG) (mt : MT) (me : ME) (vs : List Nat) (k : List D → Cs → Prop) : List D → List D → Cs → Prop
  | [], acc, ρ => k acc ρ
  | x :: r, acc, ρ => mg x ρ fun ρ1 => mt ρ1 fun b ρ2 => if b = true then me ρ2 fun d ρ3 => mLcL mg mt me vs k r (acc ++ [d]) (wipeC ρ3 vs) else mLcL mg mt me vs k r acc (wipeC ρ2 vs)
def mLc (mi : MI) (mg : MG) (mt : MT) (me : ME) (vs : List Nat) : ME := fun ρ k => mi ρ fun xs ρ1 => xs.length ≤ sizeLine ∧ mLcL mg mt me vs (fun ds ρ2 => k (.list ds) ρ2) xs [] (wipeC ρ1 vs)
theorem mo_lcL {mg : MG} {mt : MT} {me : ME} {vs : List Nat} (hg : ∀ d ρ (k k' : Cs → Prop), (∀ ρ', k ρ' → k' ρ') → mg d ρ k → mg d ρ k') (ht : Mo mt) (he : Mo me) {k k' : List D → Cs → Prop} (w : ∀ d ρ', k d ρ' → k' d ρ') : ∀ (xs acc : List D) (ρ : Cs), mLcL mg mt me vs k xs acc ρ → mLcL mg mt me vs k' xs acc ρ
  | [], acc, ρ, h => w _ _ h
  | x :: r, acc, ρ, h => hg _ _ _ _ (fun ρ1 => ht ρ1 _ _ fun b ρ2 q => by
    cases b
    · exact mo_lcL hg ht he w r acc _ q
    · exact he ρ2 _ _ (fun d ρ3 => mo_lcL hg ht he w r _ _) q) h
variable {X : Cx}
/-- the reading -/
theorem t_lc {wi : MI} {g : TG} {mg : MG} {mt : MT} {me : ME} {vs ts : List Nat} (hi : Mo wi) (sg : SG K 0 ts g mg) (hts : ∀ t ∈ ts, t ∈ vs) (ht : Mo mt) (he : Mo me) (σ : L2.St) (H : Hp) (Q : VK) (h : tE K (fF K) (mLc wi mg mt me vs) σ H Q) :
    tLc (tI K wi) g (tT K mt) (tE K (fE K) me) vs σ H Q := by
  obtain ⟨G, ρ, R, h⟩ := h
  refine ⟨G, ρ, R, hi ρ _ _ (fun xs ρ1 q J G1 H1 R1 l1 wk L hL => ?_) h⟩
  obtain ⟨hsz, q⟩ := q
  have nG : G1 L = none := R1.gh.free hL
  have n0 : H L = none := l1.st.dom L hL
  have nw : ¬ Ow (wipe σ vs) (wipeC ρ1 vs) L := fun w => (R1.wipe vs).old w hL
  refine ⟨fun i k H' => k = xs.length - i ∧ i ≤ xs.length ∧ ∃ G' ρ' acc vacc, Rel K (wipe σ vs) G' H' (wipeC ρ' vs) ∧ Same G1 G' ∧ Lk 0 σ G H ρ (wipe σ vs) G' H' (wipeC ρ' vs) ∧ H' L = some (.lst vacc) ∧ G' L = none ∧ ¬ Ow (wipe σ vs) (wipeC ρ' vs) L ∧ RpAll K G' vacc acc ∧ acc.length ≤ i ∧
    mLcL mg mt me vs (fun ds ρ2 => ∀ v G' H', Rel K σ G' H' ρ2 → Lk 0 σ G H ρ σ G' H' ρ2 → fF K H σ ρ2 G' H' v (.list ds) → Q v H') (xs.drop i) acc (wipeC ρ' vs),
    ⟨_, rfl, Nat.zero_le _, G1, ρ1, [], [], (R1.wipe vs).poke nG nw, .refl _, (l1.wipe vs).poke n0, upd_same, nG, nw, .nil, Nat.zero_le _, q⟩, ?_⟩
  rintro i k H2 ⟨rfl, hle, G2, ρ2, acc, vacc, R2, g2, l2, hL2, nG2, nw2, ra, hacc, q2⟩
  obtain ⟨w1, w2, w3⟩ := wk G2 H2 g2 R2.gh
  by_cases hlt : i < xs.length
  · refine .inr ⟨w1 i hlt, fun H' => ∃ G' ρ' acc vacc, Rel K (wipe σ vs) G' H' (wipeC ρ' vs) ∧ Same G1 G' ∧ Lk 0 σ G H ρ (wipe σ vs) G' H' (wipeC ρ' vs) ∧ H' L = some (.lst vacc) ∧ G' L = none ∧ ¬ Ow (wipe σ vs) (wipeC ρ' vs) L ∧ RpAll K G' vacc acc ∧ acc.length ≤ i + 1 ∧
      mLcL mg mt me vs (fun ds ρ2 => ∀ v G' H', Rel K σ G' H' ρ2 → Lk 0 σ G H ρ σ G' H' ρ2 → fF K H σ ρ2 G' H' v (.list ds) → Q v H') (xs.drop (i + 1)) acc (wipeC ρ' vs), fun H' z => ⟨xs.length - (i + 1), by omega, rfl, hlt, z⟩, fun x H3 y => ?_⟩
    obtain ⟨G3, dx, gh3, st3, hx, rx⟩ := w3 i x H3 hlt y
    have R3 := R2.pure st3 gh3
    have l3 := l2.trans (Lk.pure (n := 0) (ρ := wipeC ρ2 vs) (σ := wipe σ vs) st3)
    have hL3 : H3 L = some (.lst vacc) := st3.hh L _ (fun z => z) hL2
    have nG3 : G3 L = none := st3.fr L _ (fun z => z) hL2 nG2 rfl
    have e : xs.drop i = dx :: xs.drop (i + 1) := by
      rw [List.drop_eq_getElem_cons hlt]
      rw [List.getElem?_eq_getElem hlt] at hx
      rw [Option.some.inj hx]
    rw [e] at q2
    refine sg.run (wipe σ vs) G3 H3 (wipeC ρ2 vs) x dx _ R3 rx (sg.mono _ _ _ _ (fun ρ4 q4 σ4 R4 l4 c4 => ?_) q2)
    have ew : wipe σ4 vs = wipe σ vs := (c4.wipe hts).trans wipe_wipe
    refine ⟨ew, G3, ρ4, R4, ht ρ4 _ _ (fun b ρ5 q5 G5 H5 R5 l5 => ?_) q4⟩
    -- L is no one's
    have own4 : ¬ Ow σ4 ρ4 L := fun w => by
      rcases l4.sb L w with z | z
      · exact nw2 z
      · rw [hL3] at z; cases z
    have hL5 : H5 L = some (.lst vacc) := l5.st.hh L _ own4 hL3
    have nG5 : G5 L = none := l5.st.fr L _ own4 hL3 nG3 rfl
    have l05 := l3.trans (l4.trans l5)
    cases b
    · have z : Lk 0 (wipe σ vs) G3 H3 (wipeC ρ2 vs) (wipe σ4 vs) G5 H5 (wipeC ρ5 vs) := (l4.trans l5).wipe vs
      have RR := R5.wipe vs
      have LL := l05.wipe vs
      rw [ew] at RR LL z
      refine ⟨G5, ρ5, acc, vacc, RR, (g2.trans st3.gg).trans l5.st.gg, LL, hL5, nG5, fun w => ?_, rps_same (st3.gg.trans l5.st.gg) ra, by omega, q5⟩
      rcases z.sb L w with z | z
      · exact nw2 z
      · rw [hL3] at z; cases z
    · refine ⟨G5, ρ5, R5, he ρ5 _ _ (fun d ρ6 q6 v G6 H6 R6 l6 rv => ?_) q5⟩
      have own5 : ¬ Ow σ4 ρ5 L := fun w => by
        rcases l5.sb L w with z | z
        · exact own4 z
        · rw [hL3] at z; cases z
      have hL6 : H6 L = some (.lst vacc) := l6.st.hh L _ own5 hL5
      have nG6 : G6 L = none := l6.st.fr L _ own5 hL5 nG5 rfl
      have la := rps_len ra
      refine ⟨vacc, hL6, by omega, ?_⟩
      have z : Lk 0 (wipe σ vs) G3 H3 (wipeC ρ2 vs) (wipe σ4 vs) G6 H6 (wipeC ρ6 vs) := ((l4.trans l5).trans l6).wipe vs
      have RR := R6.wipe vs
      have LL := (l05.trans l6).wipe vs
      rw [ew] at RR LL z
      have nw6 : ¬ Ow (wipe σ vs) (wipeC ρ6 vs) L := fun w => by
        rcases z.sb L w with z | z
        · exact nw2 z
        · rw [hL3] at z; cases z
      have app : ∀ {vs : List V} {ds : List D} {v : V} {d : D}, RpAll K G6 vs ds → Rp K G6 v d → RpAll K G6 (vs ++ [v]) (ds ++ [d]) := by
        intro vs
        induction vs with
        | nil =>
          intro ds v d a b
          cases a
          exact .cons b .nil
        | cons x r ih =>
          intro ds v d a b
          cases a with
          | cons a1 a2 => exact .cons a1 (ih a2 b)
      refine ⟨G6, ρ6, acc ++ [d], vacc ++ [v], RR.poke nG6 nw6, ((g2.trans st3.gg).trans l5.st.gg).trans l6.st.gg, LL.poke n0, upd_same, nG6, nw6, app (rps_same ((st3.gg.trans l5.st.gg).trans l6.st.gg) ra) rv, by simp; omega, q6⟩
  · have e : i = xs.length := by omega
    subst e
    rw [List.drop_length] at q2
    obtain ⟨Rf, of⟩ := R2.unwipe
    exact .inl ⟨w2, q2 _ G2 H2 Rf ⟨l2.st, fun p w => l2.sb p (of p w), fun _ h => absurd h (Nat.not_lt_zero _)⟩ ⟨L, _, rfl, n0, fun w => nw2 (of L w), hL2, nG2, .lst ra⟩⟩
end
end Dl

set_option Elab.async false
set_option linter.all false
set_option maxRecDepth 100000
set_option maxHeartbeats 4000000
namespace Dl
open PySem PySem.Spec PyProof.Rows L2 Br
section
variable {K : PySem.W.Frag} {X : Cx}
/-- [elt for target in iter if ..] -/
theorem se_lc {elt tg iter : Expr} {ifs : List Expr} {scope : Scope} {own : List (Str × Nat)} {pos : Pos} {wi : MI} {g : TG} {mg : MG} {mt : MT} {me : ME} {ts : List Nat} (hc : X.calm = true) (hN : X.N.Nodup) (hi : SI K X tg iter wi) (ok : BlkOk X.N X.env.scope scope own)
    (hg : ∀ (s : Shared) (H : Hp) (C : Addr) (cl : List (Str × Addr)) (fp : List Addr), PG (X.blk s H scope (compEnvC scope cl C X.env) fp) tg g) (sg : SG K 0 ts g mg) (hts : ∀ t ∈ ts, t ∈ own.map (·.2))
    (ht : ∀ (s : Shared) (H : Hp) (C : Addr) (cl : List (Str × Addr)) (fp : List Addr), STs K (X.blk s H scope (compEnvC scope cl C X.env) fp) ifs mt)
    (he : ∀ (s : Shared) (H : Hp) (C : Addr) (cl : List (Str × Addr)) (fp : List Addr), SE K (fE K) (X.blk s H scope (compEnvC scope cl C X.env) fp) elt me) (hs : ∀ x, foldedSetIterable iter X.env x = pure x := by intro _; rfl) :
    SE K (fF K) X (.ListComp elt [⟨tg, iter, ifs, 0⟩] scope pos) (mLc wi mg mt me (own.map (·.2))) :=
  have mt' := (ht X.s_0 X.H_0 0 [] []).mono
  have me' := (he X.s_0 X.H_0 0 [] []).mono
  ⟨fun ρ k k' w => hi.mono ρ _ _ fun xs ρ1 q => ⟨q.1, mo_lcL sg.mono mt' me' (fun ds ρ2 => w _ ρ2) xs [] _ q.2⟩,
    pe_weak (pe_lc hc hN hi.pi ok hg (fun s H C cl fp => (ht s H C cl fp).pts) (fun s H C cl fp => (he s H C cl fp).pe) hs) (t_lc hi.mono sg hts mt' me')⟩
/-- name = [..] on one line -/
theorem ss_setLc {n i : Nat} {y : Str} {py : Pos} {elt tg iter : Expr} {ifs : List Expr} {scope : Scope} {own : List (Str × Nat)} {pos spos : Pos} {wi : MI} {g : TG} {mg : MG} {mt : MT} {me : ME} {ts : List Nat} (hn : n ≤ i) (hc : X.calm = true) (hN : X.N.Nodup) (hy : X.N[i]? = some y) (hyl : X.env.scope.names.lookup y = some .local)
    (hsw : swapsWith (.ListComp elt [⟨tg, iter, ifs, 0⟩] scope pos) (some (.Name y py)) spos.line X.env = pure true) (hi : SI K X tg iter wi) (ok : BlkOk X.N X.env.scope scope own)
    (hg : ∀ (s : Shared) (H : Hp) (C : Addr) (cl : List (Str × Addr)) (fp : List Addr), PG (X.blk s H scope (compEnvC scope cl C X.env) fp) tg g) (sg : SG K 0 ts g mg) (hts : ∀ t ∈ ts, t ∈ own.map (·.2))
    (ht : ∀ (s : Shared) (H : Hp) (C : Addr) (cl : List (Str × Addr)) (fp : List Addr), STs K (X.blk s H scope (compEnvC scope cl C X.env) fp) ifs mt)
    (he : ∀ (s : Shared) (H : Hp) (C : Addr) (cl : List (Str × Addr)) (fp : List Addr), SE K (fE K) (X.blk s H scope (compEnvC scope cl C X.env) fp) elt me) (hs : ∀ x, foldedSetIterable iter X.env x = pure x := by intro _; rfl) :
    SS K n X (.Assign [.Name y py] (.ListComp elt [⟨tg, iter, ifs, 0⟩] scope pos) spos) (sSetO i (mLc wi mg mt me (own.map (·.2)))) := by
  have mt' := (ht X.s_0 X.H_0 0 [] []).mono
  have me' := (he X.s_0 X.H_0 0 [] []).mono
  have mo : Mo (mLc wi mg mt me (own.map (·.2))) := fun ρ k k' w => hi.mono ρ _ _ fun xs ρ1 q => ⟨q.1, mo_lcL sg.mono mt' me' (fun ds ρ2 => w _ ρ2) xs [] _ q.2⟩
  refine ⟨fun ρ E E' a _ _ _ => mo ρ _ _ fun _ ρ1 => a _, ps_weak (ps_setLc hc hN hy hyl hsw hi.pi ok hg (fun s H C cl fp => (ht s H C cl fp).pts) (fun s H C cl fp => (he s H C cl fp).pe) hs) fun T σ H ⟨G, ρ, E, R, q, a, _⟩ => ?_⟩
  refine t_lc hi.mono sg hts mt' me' σ H _ ⟨G, ρ, R, mo ρ _ _ (fun d ρ1 q v G1 H1 R1 l r => ?_) q⟩
  obtain ⟨p, o, rfl, h0, nw, hp, gp, ob⟩ := r
  exact a _ G1 H1 _ (R1.setO hp gp nw ob) (l.up.setO R1.len hn h0) q
/-- an owned local is as good as a given one, once it is given away: name = [..] for a name that is only read -/
def mFro (i : Nat) (m : MS) : MS := fun E ρ => m { E with nx := fun ρ1 => mFrz i ρ1 fun _ ρ2 => E.nx ρ2 } ρ
theorem mo_frz {i : Nat} : Mo (mFrz i) := by
  intro ρ k k' h
  unfold mFrz
  split
  · exact h _ _
  · exact h _ _
  · exact id
/-- what a given-away slot leaves -/
theorem frz_run {n i : Nat} {σ : L2.St} {G H : Hp} {ρ : Cs} {k : D → Cs → Prop} (R : Rel K σ G H ρ) (h : mFrz i ρ k) : ∃ d G' ρ', Rel K σ G' H ρ' ∧ Lk n σ G H ρ σ G' H ρ' ∧ k d ρ' := by
  unfold mFrz at h
  split at h
  · rename_i d e
    obtain ⟨p, o, hv, hp, gp, r⟩ := R.own i d e
    have sg := same_upd (o := o) gp
    refine ⟨d, upd G p o, _, ⟨same_put R.gh hp, by rw [List.length_set]; exact R.len, fun j c q => ?_, fun j c q => ?_, fun j l a c c' q q' => ?_⟩, ⟨⟨sg, fun _ _ _ h => h, fun a u n e1 g t => ?_, fun _ h => h⟩, (fun q w => ?_), fun _ _ => rfl⟩, h⟩
    · rcases set_get q with ⟨rfl, _, z⟩ | ⟨_, z⟩
      · cases z
        exact ⟨_, hv, ob_rp (ob_same sg r) upd_same⟩
      · obtain ⟨v, h1, h2⟩ := R.fro j c z
        exact ⟨v, h1, rp_same sg h2⟩
    · rcases set_get q with ⟨rfl, _, z⟩ | ⟨ne, z⟩
      · cases z
      · obtain ⟨p', o', h1, h2, h3, h4⟩ := R.own j c z
        refine ⟨p', o', h1, h2, ?_, ob_same sg h4⟩
        rw [upd_ne (fun w => by subst w; exact ne (R.apart j i p' c d z e h1 hv))]
        exact h3
    · rcases set_get q with ⟨_, _, z⟩ | ⟨_, z⟩
      · cases z
      · rcases set_get q' with ⟨_, _, z'⟩ | ⟨_, z'⟩
        · cases z'
        · exact R.apart j l a c c' z z'
    · rw [upd_ne (fun w => by subst w; exact n ⟨i, d, e, hv⟩)]
      exact g
    · obtain ⟨j, c, q1, q2⟩ := w
      rcases set_get q1 with ⟨_, _, z⟩ | ⟨_, z⟩
      · cases z
      · exact .inl ⟨j, c, z, q2⟩
  · rename_i d e
    exact ⟨d, G, ρ, R, .refl, h⟩
  · exact h.elim
theorem SS.fro {n i : Nat} {st : Stmt} {m : MS} (h : SS K n X st m) : SS K n X st (mFro i m) := by
  refine ⟨fun ρ E E' a b c d => h.mono ρ _ _ (fun ρ1 => mo_frz ρ1 _ _ fun _ ρ2 => a ρ2) b c d, ps_weak h.ps fun T σ H ⟨G, ρ, E, R, q, a, b, c, d⟩ => ⟨G, ρ, _, R, q, fun σ1 G1 H1 ρ1 R1 l1 q1 => ?_, b, c, d⟩⟩
  obtain ⟨_, G2, ρ2, R2, l2, q2⟩ := frz_run (n := n) R1 q1
  exact a σ1 G2 H1 ρ2 R2 (l1.trans l2) q2
/-! ### a def, by data -/
abbrev Fs := List Cell → (D → List Cell → Prop) → Prop
def spD (K : PySem.W.Frag) (np n : Nat) (F : Fs) : Sp := fun vs H Q _ => vs.length = np ∧ ∃ G cs, Rel K (vs.map some) G H cs ∧
  F cs fun d cs' => ∀ v G' H', Same G' H' → Rel K ((vs.take n).map some) G' H' cs' → Stp (Ow (vs.map some) cs) G H G' H' → Rp K G' v d → Q v H'
theorem Rel.more {σ : L2.St} {G H : Hp} {ρ : Cs} (R : Rel K σ G H ρ) (k : Nat) : Rel K (σ ++ List.replicate k none) G H (ρ ++ List.replicate k .un) := by
  have one : ∀ {i : Nat} {c : Cell}, c ≠ .un → (ρ ++ List.replicate k .un)[i]? = some c → ρ[i]? = some c ∧ (σ ++ List.replicate k none)[i]? = σ[i]? := by
    intro i c hc h
    by_cases hi : i < ρ.length
    · rw [List.getElem?_append_left hi] at h
      exact ⟨h, List.getElem?_append_left (by rw [R.len]; exact hi)⟩
    · rw [List.getElem?_append_right (by omega)] at h
      rw [List.getElem?_replicate] at h
      split at h
      · cases h; exact (hc rfl).elim
      · cases h
  refine ⟨R.gh, by rw [List.length_append, List.length_append, List.length_replicate, List.length_replicate, R.len], fun i d e => ?_, fun i d e => ?_, fun i j p d e h h' q q' => ?_⟩
  · obtain ⟨a, b⟩ := one (c := .fro d) (by intro z; cases z) e
    rw [b]; exact R.fro i d a
  · obtain ⟨a, b⟩ := one (c := .own d) (by intro z; cases z) e
    rw [b]; exact R.own i d a
  · obtain ⟨a, b⟩ := one (c := .own d) (by intro z; cases z) h
    obtain ⟨a', b'⟩ := one (c := .own e) (by intro z; cases z) h'
    rw [b] at q
    rw [b'] at q'
    exact R.apart i j p d e a a' q q'
theorem Rel.cut {σ : L2.St} {G H : Hp} {ρ : Cs} {n : Nat} {vs : List V} (R : Rel K σ G H ρ) (hn : n ≤ vs.length) (hl : n ≤ σ.length) (h : ∀ i, i < n → σ[i]? = (vs.map some)[i]?) : Rel K ((vs.take n).map some) G H (ρ.take n) := by
  have one : ∀ {i : Nat} {c : Cell}, (ρ.take n)[i]? = some c → ρ[i]? = some c ∧ ((vs.take n).map some)[i]? = σ[i]? := by
    intro i c e
    by_cases hi : i < n
    · rw [List.getElem?_take_of_lt hi] at e
      refine ⟨e, ?_⟩
      rw [h i hi, List.map_take, List.getElem?_take_of_lt hi]
    · rw [List.getElem?_take_eq_none (by omega)] at e
      cases e
  refine ⟨R.gh, by rw [List.length_map, List.length_take, List.length_take, ← R.len]; omega, fun i d e => ?_, fun i d e => ?_, fun i j p d e h h' q q' => ?_⟩
  · obtain ⟨a, b⟩ := one e
    rw [b]; exact R.fro i d a
  · obtain ⟨a, b⟩ := one e
    rw [b]; exact R.own i d a
  · obtain ⟨a, b⟩ := one h
    obtain ⟨a', b'⟩ := one h'
    rw [b] at q
    rw [b'] at q'
    exact R.apart i j p d e a a' q q'
end
section
variable {P : Program} {w : World} {K : PySem.W.Frag} {mg : Str → Option Value} {base : Heap} {k : Nat} {f : Addr} {fd : FuncData} {ps : List Str}
theorem fn_ok {x qual : Str} {st : Stmt} {N : List Str} {n : Nat} {F : Fs} (Fu : Fun K x qual st f fd) (S : FnScope N ps (defScope st)) (hn : n ≤ ps.length)
    (body : ∀ (cdv : Value) (Ar : Around) (out : List PySem.Env) (s0 : Shared) (H : Hp) (E : XK), Bare Ar → Room k (Ar.deeper (envOfC qual (defScope st) s0.heap.objs.size f cdv)) →
      ∃ ms, SB K n (cxOf CX0 P w K mg base N qual (defScope st) f cdv Ar out s0 H E).nox (defBody st) ms ∧
        ∀ cs k, cs.length = ps.length → F cs k → ms { nx := fun ρ' => k .none (ρ'.take n), rt := fun d ρ' => k d (ρ'.take n) } (cs ++ List.replicate (N.length - ps.length) .un)) :
    FnG P w K mg base CX0 (k + 1) f fd ps (spD K ps.length n F) := by
  refine okG Fu S (fun vs H Q E h => h.1) fun cdv Ar out s0 H vs Q E hG hr hsp => ?_
  obtain ⟨ms, sb, hF⟩ := body cdv Ar out s0 H E hG hr
  obtain ⟨hl, G, cs, R, h⟩ := hsp
  have hcl : cs.length = ps.length := by rw [← R.len, List.length_map, hl]
  refine ⟨_, sb.ps, ?_⟩
  have R0 := R.more (N.length - ps.length)
  have e0 : vs.map some ++ List.replicate (N.length - ps.length) none = L2.start N vs := by unfold L2.start; rw [hl]
  rw [e0] at R0
  have st0 : ∀ i, i < n → (L2.start N vs)[i]? = (vs.map some)[i]? := fun i hi => by
    unfold L2.start
    rw [List.getElem?_append_left (by rw [List.length_map]; omega)]
  have ow0 : ∀ p, Ow (L2.start N vs) (cs ++ List.replicate (N.length - ps.length) .un) p → Ow (vs.map some) cs p := by
    rintro p ⟨i, d, h1, h2⟩
    by_cases hi : i < cs.length
    · rw [List.getElem?_append_left hi] at h1
      unfold L2.start at h2
      rw [List.getElem?_append_left (by rw [List.length_map]; omega)] at h2
      exact ⟨i, d, h1, h2⟩
    · rw [List.getElem?_append_right (by omega), List.getElem?_replicate] at h1
      split at h1 <;> cases h1
  have fin : ∀ v d σ' G' H' ρ', Rel K σ' G' H' ρ' → Lk n (L2.start N vs) G H (cs ++ List.replicate (N.length - ps.length) .un) σ' G' H' ρ' → Rp K G' v d →
      (∀ v G' H', Same G' H' → Rel K ((vs.take n).map some) G' H' (ρ'.take n) → Stp (Ow (vs.map some) cs) G H G' H' → Rp K G' v d → Q v H') → Q v H' := fun v d σ' G' H' ρ' R' l r q => by
    have hs : n ≤ σ'.length := by
      by_cases z : n = 0
      · omega
      · have e := (l.pn (n - 1) (by omega)).trans (st0 (n - 1) (by omega))
        have hv : n - 1 < vs.length := by omega
        rw [List.getElem?_map, List.getElem?_eq_getElem hv] at e
        have := (List.getElem?_eq_some_iff.mp e).1
        omega
    exact q v G' H' R'.gh (R'.cut (by omega) hs fun i hi => (l.pn i hi).trans (st0 i hi)) (l.st.weak ow0) r
  exact ⟨G, _, _, R0, hF cs _ hcl h, fun σ' G' H' ρ' R' l q => fin .non .none σ' G' H' ρ' R' l .non q, fun v d σ' G' H' ρ' R' l r q => fin v d σ' G' H' ρ' R' l r q, fun _ _ _ _ _ _ z => z.elim, fun _ _ _ _ _ _ z => z.elim⟩
end
end Dl

set_option Elab.async false
set_option linter.all false
set_option maxRecDepth 100000
set_option maxHeartbeats 4000000
namespace Dl
open PySem PySem.Spec PyProof.Rows L2 Br
/-! ### calls: an argument is data, or an owned one by its slot -/
abbrev Ar := Nat ⊕ D
abbrev MR := Cs → (List Ar → Cs → Prop) → Prop
inductive ArR (K : PySem.W.Frag) (σ : L2.St) (G : Hp) : List V → List Ar → Prop
  | nil : ArR K σ G [] []
  | own {v : V} {j : Nat} {vs : List V} {as : List Ar} : σ[j]? = some (some v) → ArR K σ G vs as → ArR K σ G (v :: vs) (.inl j :: as)
  | val {v : V} {d : D} {vs : List V} {as : List Ar} : Rp K G v d → ArR K σ G vs as → ArR K σ G (v :: vs) (.inr d :: as)
def tR (K : PySem.W.Frag) (m : MR) : TA := fun σ H Q => ∃ G ρ, Rel K σ G H ρ ∧ m ρ fun as ρ' => ∀ vs G' H', Rel K σ G' H' ρ' → Lk 0 σ G H ρ σ G' H' ρ' → ArR K σ G' vs as → Q vs H'
structure SR (K : PySem.W.Frag) (X : Cx) (es : List Expr) (m : MR) : Prop where
  mono : Mo m
  pa : PA X es (tR K m)
def rNil : MR := fun ρ k => k [] ρ
def rCons (m : ME) (r : MR) : MR := fun ρ k => m ρ fun d ρ1 => r ρ1 fun ds ρ2 => k (.inr d :: ds) ρ2
def rOwn (j : Nat) (r : MR) : MR := fun ρ k => mOwn j ρ fun _ _ => r ρ fun ds ρ2 => k (.inl j :: ds) ρ2
section
variable {K : PySem.W.Frag} {X : Cx} {a : Expr} {es : List Expr} {m : ME} {mr : MR}
theorem ar_same {σ : L2.St} {G G' : Hp} (e : Same G G') : ∀ {vs : List V} {as : List Ar}, ArR K σ G vs as → ArR K σ G' vs as
  | _, _, .nil => .nil
  | _, _, .own h r => .own h (ar_same e r)
  | _, _, .val h r => .val (rp_same e h) (ar_same e r)
theorem sr_nil : SR K X [] rNil := ⟨fun ρ k k' w => w _ _, pa_weak pa_nil fun σ H Q ⟨G, ρ, R, q⟩ => q [] G H R .refl .nil⟩
theorem sr_cons (h : SE K (fE K) X a m) (g : SR K X es mr) (hs : starEach (a :: es) X.env = (false, eval a X.env) :: starEach es X.env := by rfl) : SR K X (a :: es) (rCons m mr) :=
  ⟨fun ρ k k' w => h.mono ρ _ _ fun d ρ1 => g.mono ρ1 _ _ fun ds ρ2 => w _ _, pa_weak (pa_cons h.pe g.pa hs) fun σ H Q ⟨G, ρ, R, q⟩ =>
    ⟨G, ρ, R, h.mono ρ _ _ (fun d ρ1 q v G1 H1 R1 l r => ⟨G1, ρ1, R1, g.mono ρ1 _ _ (fun ds ρ2 q vs G2 H2 R2 l2 rs => q _ G2 H2 R2 (l.trans l2) (.val (rp_same l2.st.gg r) rs)) q⟩) q⟩⟩
theorem sr_own {j : Nat} (h : PE X a (tVar j)) (g : SR K X es mr) (hs : starEach (a :: es) X.env = (false, eval a X.env) :: starEach es X.env := by rfl) : SR K X (a :: es) (rOwn j mr) :=
  ⟨fun ρ k k' w => mo_own ρ _ _ fun _ _ => g.mono ρ _ _ fun ds ρ2 => w _ _, pa_weak (pa_cons h g.pa hs) fun σ H Q ⟨G, ρ, R, q⟩ => by
    obtain ⟨x, _, hx, _, q⟩ := own_there R q
    exact ⟨x, hx, G, ρ, R, g.mono ρ _ _ (fun ds ρ2 q vs G2 H2 R2 l2 rs => q _ G2 H2 R2 l2 (.own hx rs)) q⟩⟩
/-- the cells that are handed in -/
def cellsOf (ρ : Cs) : List Ar → Option (List Cell)
  | [] => some []
  | .inl j :: as => match ρ[j]? with
    | some (.own d) => (cellsOf ρ as).map (.own d :: ·)
    | _ => none
  | .inr d :: as => (cellsOf ρ as).map (.fro d :: ·)
def putBack : Cs → List Ar → List Cell → Cs
  | ρ, .inl j :: as, c :: cs => putBack (ρ.set j c) as cs
  | ρ, .inr _ :: as, _ :: cs => putBack ρ as cs
  | ρ, _, _ => ρ
def slotsOf : List Ar → List Nat
  | [] => []
  | .inl j :: as => j :: slotsOf as
  | .inr _ :: as => slotsOf as
def mCall (F : Fs) (n : Nat) (mr : MR) : ME := fun ρ k => mr ρ fun as ρ1 => (slotsOf as).Nodup ∧ slotsOf (as.drop n) = [] ∧ match cellsOf ρ1 as with
  | some cs => F cs fun d cs' => k d (putBack ρ1 as cs')
  | none => False
theorem cells_get {σ : L2.St} {G H : Hp} {ρ : Cs} (R : Rel K σ G H ρ) : ∀ {vs : List V} {as : List Ar} {cs : List Cell}, ArR K σ G vs as → cellsOf ρ as = some cs → cs.length = vs.length ∧ ∀ (i : Nat) (c : Cell), cs[i]? = some c →
    (∃ d v, c = .fro d ∧ as[i]? = some (.inr d) ∧ vs[i]? = some v ∧ Rp K G v d) ∨ (∃ d j v, c = .own d ∧ as[i]? = some (.inl j) ∧ ρ[j]? = some (.own d) ∧ vs[i]? = some v ∧ σ[j]? = some (some v))
  | _, _, _, .nil, h => by
    cases h
    exact ⟨rfl, fun i c e => nomatch e⟩
  | _, _, _, .val (v := v) (d := d) (vs := vs) (as := as) r rs, h => by
    obtain ⟨cs, h1, h2⟩ := Option.map_eq_some_iff.mp (show (cellsOf ρ as).map (.fro d :: ·) = some _ from h)
    subst h2
    obtain ⟨l, ih⟩ := cells_get R rs h1
    refine ⟨congrArg (· + 1) l, fun i c e => ?_⟩
    cases i with
    | zero => cases e; exact .inl ⟨d, v, rfl, rfl, rfl, r⟩
    | succ i => exact ih i c e
  | _, _, _, .own (v := v) (j := j) (vs := vs) (as := as) hv rs, h => by
    unfold cellsOf at h
    split at h
    · rename_i d e
      obtain ⟨cs, h1, h2⟩ := Option.map_eq_some_iff.mp h
      subst h2
      obtain ⟨l, ih⟩ := cells_get R rs h1
      refine ⟨congrArg (· + 1) l, fun i c q => ?_⟩
      cases i with
      | zero => cases q; exact .inr ⟨d, j, v, rfl, rfl, e, rfl, hv⟩
      | succ i => exact ih i c q
    · cases h
theorem mem_slots {j : Nat} : ∀ {as : List Ar} {i : Nat}, as[i]? = some (.inl j) → j ∈ slotsOf as
  | [], _, h => nomatch h
  | .inl _ :: as, 0, h => by cases h; exact List.mem_cons_self
  | .inl _ :: as, i + 1, h => List.mem_cons_of_mem _ (mem_slots (as := as) (i := i) h)
  | .inr _ :: as, 0, h => nomatch h
  | .inr _ :: as, i + 1, h => mem_slots (as := as) (i := i) h
theorem slots_inj {j : Nat} : ∀ {as : List Ar} {i k : Nat}, (slotsOf as).Nodup → as[i]? = some (.inl j) → as[k]? = some (.inl j) → i = k
  | [], _, _, _, h, _ => nomatch h
  | .inl _ :: as, 0, 0, _, _, _ => rfl
  | .inl _ :: as, 0, k + 1, nd, h, h' => by cases h; exact ((List.nodup_cons.mp nd).1 (mem_slots (as := as) (i := k) h')).elim
  | .inl _ :: as, i + 1, 0, nd, h, h' => by cases h'; exact ((List.nodup_cons.mp nd).1 (mem_slots (as := as) (i := i) h)).elim
  | .inl _ :: as, i + 1, k + 1, nd, h, h' => congrArg (· + 1) (slots_inj (as := as) (List.nodup_cons.mp nd).2 h h')
  | .inr _ :: as, 0, _, _, h, _ => nomatch h
  | .inr _ :: as, _, 0, _, _, h' => nomatch h'
  | .inr _ :: as, i + 1, k + 1, nd, h, h' => congrArg (· + 1) (slots_inj (as := as) nd h h')
/-- a slot behind the call -/
theorem pb_get {j : Nat} {c : Cell} : ∀ {as : List Ar} {cs : List Cell} {ρ : Cs}, (slotsOf as).Nodup → (putBack ρ as cs)[j]? = some c →
    (∃ i : Nat, as[i]? = some (Sum.inl j) ∧ cs[i]? = some c) ∨ (ρ[j]? = some c ∧ ∀ i : Nat, as[i]? = some (.inl j) → cs.length ≤ i)
  | [], cs, ρ, _, h => by
    unfold putBack at h
    exact .inr ⟨h, fun i e => nomatch e⟩
  | .inl a :: as, [], ρ, _, h => by
    unfold putBack at h
    exact .inr ⟨h, fun i _ => Nat.zero_le _⟩
  | .inr a :: as, [], ρ, _, h => by
    unfold putBack at h
    exact .inr ⟨h, fun i _ => Nat.zero_le _⟩
  | .inl a :: as, c0 :: cs, ρ, nd, h => by
    unfold putBack at h
    obtain ⟨n1, n2⟩ := List.nodup_cons.mp nd
    rcases pb_get (as := as) (cs := cs) n2 h with ⟨i, h1, h2⟩ | ⟨h1, h2⟩
    · exact .inl ⟨i + 1, h1, h2⟩
    · rcases set_get h1 with ⟨rfl, _, z⟩ | ⟨ne, z⟩
      · exact .inl ⟨0, rfl, by rw [z]; rfl⟩
      · refine .inr ⟨z, fun i e => ?_⟩
        cases i with
        | zero => cases e; exact (ne rfl).elim
        | succ i => exact Nat.succ_le_succ (h2 i e)
  | .inr a :: as, c0 :: cs, ρ, nd, h => by
    unfold putBack at h
    rcases pb_get (as := as) (cs := cs) nd h with ⟨i, h1, h2⟩ | ⟨h1, h2⟩
    · exact .inl ⟨i + 1, h1, h2⟩
    · refine .inr ⟨h1, fun i e => ?_⟩
      cases i with
      | zero => cases e
      | succ i => exact Nat.succ_le_succ (h2 i e)
theorem pb_len : ∀ {as : List Ar} {cs : List Cell} {ρ : Cs}, (putBack ρ as cs).length = ρ.length
  | [], _, _ => by unfold putBack; rfl
  | .inl _ :: _, [], _ => by unfold putBack; rfl
  | .inr _ :: _, [], _ => by unfold putBack; rfl
  | .inl a :: as, c0 :: cs, ρ => by
    unfold putBack
    rw [pb_len (as := as) (cs := cs), List.length_set]
  | .inr a :: as, c0 :: cs, ρ => by
    unfold putBack
    exact pb_len (as := as) (cs := cs)
theorem drop_slots {n i j : Nat} {as : List Ar} (h : slotsOf (as.drop n) = []) (e : as[i]? = some (.inl j)) : i < n := by
  refine Classical.byContradiction fun z => ?_
  have q : (as.drop n)[i - n]? = some (.inl j) := by
    rw [List.getElem?_drop, show n + (i - n) = i by omega]
    exact e
  have := mem_slots q
  rw [h] at this
  cases this
theorem t_call {F : Fs} {np n : Nat} {E : XK} (hm : Mo mr) (hF : ∀ cs (k k' : D → List Cell → Prop), (∀ d cs', k d cs' → k' d cs') → F cs k → F cs k') (hnp : ∀ cs k, F cs k → cs.length = np) (hn : n ≤ np) (σ : L2.St) (H : Hp) (Q : VK) (h : tE K (fE K) (mCall F n mr) σ H Q) :
    tCall (spD K np n F) [] E (tR K mr) σ H Q := by
  obtain ⟨G, ρ, R, h⟩ := h
  refine ⟨G, ρ, R, hm ρ _ _ (fun as ρ1 q vs G1 H1 R1 l1 ar => ?_) h⟩
  obtain ⟨nd, ds, q⟩ := q
  rw [List.append_nil]
  split at q
  · rename_i cs hcs
    obtain ⟨hl, get⟩ := cells_get R1 ar hcs
    have hv : vs.length = np := by rw [← hl]; exact hnp _ _ q
    -- the cells of the call
    have RR : Rel K (vs.map some) G1 H1 cs := by
      refine ⟨R1.gh, by rw [List.length_map, hl], fun i d e => ?_, fun i d e => ?_, fun i k p d e h h' g g' => ?_⟩
      · rcases get i _ e with ⟨d', v, z, _, hv, r⟩ | ⟨d', j, v, z, _⟩
        · cases z
          exact ⟨v, by rw [List.getElem?_map, hv]; rfl, r⟩
        · cases z
      · rcases get i _ e with ⟨d', v, z, _⟩ | ⟨d', j, v, z, _, hj, hv, hs⟩
        · cases z
        · cases z
          obtain ⟨p, o, h1, h2⟩ := R1.own j d hj
          rw [hs] at h1
          cases h1
          exact ⟨p, o, by rw [List.getElem?_map, hv]; rfl, h2⟩
      · rcases get i _ h with ⟨d', v, z, _⟩ | ⟨d', j, v, z, ha, hj, hv, hs⟩
        · cases z
        · rcases get k _ h' with ⟨d'', v', z', _⟩ | ⟨d'', j', v', z', ha', hj', hv', hs'⟩
          · cases z'
          · cases z
            cases z'
            rw [List.getElem?_map, hv] at g
            rw [List.getElem?_map, hv'] at g'
            cases g
            cases g'
            have := R1.apart j j' p d e hj hj' hs hs'
            subst this
            exact slots_inj nd ha ha'
    have own1 : ∀ p, Ow (vs.map some) cs p → Ow σ ρ1 p := by
      rintro p ⟨i, d, h1, h2⟩
      rcases get i _ h1 with ⟨d', v, z, _⟩ | ⟨d', j, v, z, ha, hj, hv, hs⟩
      · cases z
      · cases z
        rw [List.getElem?_map, hv] at h2
        cases h2
        exact ⟨j, d, hj, hs⟩
    refine ⟨hv, G1, cs, RR, hF _ _ _ (fun d cs' q v G' H' gh R' st r => ?_) q⟩
    have hcl : cs'.length = n := by
      rw [← R'.len, List.length_map, List.length_take]; omega
    -- an owned argument's place
    have arg : ∀ (i j : Nat), as[i]? = some (Sum.inl j) → ∃ v d, vs[i]? = some v ∧ σ[j]? = some (some v) ∧ ρ1[j]? = some (.own d) ∧ i < n ∧ cs[i]? = some (.own d) := fun i j e => by
      have hi := drop_slots ds e
      obtain ⟨c, hc⟩ : ∃ c, cs[i]? = some c := ⟨_, List.getElem?_eq_getElem (by omega)⟩
      rcases get i c hc with ⟨d', v, z, ha, _⟩ | ⟨d', j', v, z, ha, hj, hv, hs⟩
      · rw [e] at ha; cases ha
      · rw [e] at ha
        cases ha
        subst z
        exact ⟨v, d', hv, hs, hj, hi, hc⟩
    have tk : ∀ (i : Nat) (v : V), i < n → vs[i]? = some v → ((vs.take n).map some)[i]? = some (some v) := fun i v hi e => by
      rw [List.map_take, List.getElem?_take_of_lt hi, List.getElem?_map, e]; rfl
    have cases_ : ∀ (j : Nat) (c : Cell), (putBack ρ1 as cs')[j]? = some c → (∃ (i : Nat) (v : V) (d : D), as[i]? = some (Sum.inl j) ∧ cs'[i]? = some c ∧ i < n ∧ vs[i]? = some v ∧ σ[j]? = some (some v) ∧ ρ1[j]? = some (.own d)) ∨ (ρ1[j]? = some c ∧ ∀ i : Nat, as[i]? ≠ some (Sum.inl j)) := fun j c e => by
      rcases pb_get nd e with ⟨i, h1, h2⟩ | ⟨h1, h2⟩
      · obtain ⟨v, d, z1, z2, z3, z4, _⟩ := arg i j h1
        exact .inl ⟨i, v, d, h1, h2, z4, z1, z2, z3⟩
      · refine .inr ⟨h1, fun i z => ?_⟩
        have := h2 i z
        have := drop_slots ds z
        omega
    -- what isn't handed in is not touched
    have apart1 : ∀ (j : Nat) (d : D) (p : Addr), ρ1[j]? = some (Cell.own d) → σ[j]? = some (some (V.ref p)) → (∀ i : Nat, as[i]? ≠ some (Sum.inl j)) → ¬ Ow (vs.map some) cs p := fun j d p h1 h2 no ⟨i, d', h3, h4⟩ => by
      rcases get i _ h3 with ⟨_, _, z, _⟩ | ⟨d'', j', v, z, ha, hj, hv, hs⟩
      · cases z
      · rw [List.getElem?_map, hv] at h4
        cases h4
        have := R1.apart j j' p d d'' h1 hj h2 hs
        subst this
        exact no i ha
    have R2 : Rel K σ G' H' (putBack ρ1 as cs') := by
      refine ⟨gh, by rw [pb_len]; exact R1.len, fun j d e => ?_, fun j d e => ?_, fun j j' p d e h h' g g' => ?_⟩
      · rcases cases_ j _ e with ⟨i, v, d', h1, h2, h3, h4, h5, h6⟩ | ⟨h1, h2⟩
        · obtain ⟨v', g1, g2⟩ := R'.fro i d h2
          rw [tk i v h3 h4] at g1
          cases g1
          exact ⟨v, h5, g2⟩
        · obtain ⟨v, g1, g2⟩ := R1.fro j d h1
          exact ⟨v, g1, rp_same st.gg g2⟩
      · rcases cases_ j _ e with ⟨i, v, d', h1, h2, h3, h4, h5, h6⟩ | ⟨h1, h2⟩
        · obtain ⟨p, o, g1, g2⟩ := R'.own i d h2
          rw [tk i v h3 h4] at g1
          cases g1
          exact ⟨p, o, h5, g2⟩
        · obtain ⟨p, o, g1, g2, g3, g4⟩ := R1.own j d h1
          have na := apart1 j d p h1 g1 h2
          exact ⟨p, o, g1, st.hh p o na g2, st.fr p o na g2 g3 (ob_tup g4), ob_same st.gg g4⟩
      · have oj : ∀ (j : Nat) (d : D), (putBack ρ1 as cs')[j]? = some (.own d) → ∃ d, ρ1[j]? = some (.own d) := fun j d e => by
          rcases cases_ j _ e with ⟨i, v, d', h1, h2, h3, h4, h5, h6⟩ | ⟨h1, h2⟩
          · exact ⟨d', h6⟩
          · exact ⟨d, h1⟩
        obtain ⟨d1, e1⟩ := oj j d h
        obtain ⟨d2, e2⟩ := oj j' e h'
        exact R1.apart j j' p d1 d2 e1 e2 g g'
    refine q v G' H' R2 (l1.trans ⟨st.weak own1, fun p ⟨j, d, h1, h2⟩ => .inl ?_, fun _ _ => rfl⟩) r
    rcases cases_ j _ h1 with ⟨i, v, d', _, _, _, _, _, h6⟩ | ⟨h3, _⟩
    · exact ⟨j, d', h6, h2⟩
    · exact ⟨j, d, h3, h2⟩
  · exact q.elim
/-- f(e, ..) -/
theorem se_call {F : Fs} {n k : Nat} {f : Addr} {fd : FuncData} {ps : List Str} {x : Str} {p pos : Pos} (Fn : FnG X.prog X.w X.K X.mg X.base CX0 k f fd ps (spD K ps.length n F)) (hF : ∀ cs (k k' : D → List Cell → Prop), (∀ d cs', k d cs' → k' d cs') → F cs k → F cs k') (hnp : ∀ cs k, F cs k → cs.length = ps.length) (hn : n ≤ ps.length)
    (hG : Bare X.A) (hr : Room k X.A) (hg : Gl X x) (hm : X.mg x = some (.ref f)) (hk : PySem.W.keepIn X.K (.ref f) = true) (hb : Binds X.K fd ps []) (ha : SR K X (a :: es) mr) (hdb : (x == ("__debug__" : Str)) = false := by decide) (he : starEach (a :: es) X.env = (false, eval a X.env) :: starEach es X.env := by rfl)
    (hpl : (backTo pos (starEach es X.env)).any (·.1) = false := by rfl) : SE K (fE K) X (.Call (.Name x p) (a :: es) [] pos) (mCall F n mr) := by
  refine ⟨fun ρ k k' w => ha.mono ρ _ _ fun as ρ1 q => ⟨q.1, q.2.1, ?_⟩, pe_weak (pe_callG (E := fun _ _ _ => False) Fn hG hr hg hm hk hb pass0 ha.pa hdb he hpl) (t_call ha.mono hF hnp hn)⟩
  have q := q.2.2
  revert q
  cases cellsOf ρ1 as with
  | none => exact id
  | some cs => exact hF _ _ _ fun d cs' => w _ _
end
end Dl

set_option Elab.async false
set_option linter.all false
set_option maxRecDepth 100000
set_option maxHeartbeats 4000000
namespace Dl
open PySem PySem.Spec PyProof.Rows L2 Br
section
variable {K : PySem.W.Frag} {X : Cx} {G H : Hp} {x : V}
/-! ### what a view tells -/
theorem vw_int {i : Int} (h : Vw K G H x (.int i)) : x = .int i := by
  cases h with
  | fro r => cases r; rfl
  | own _ r => cases r
theorem vw_str {z : Str} (h : Vw K G H x (.str z)) : x = .str z := by
  cases h with
  | fro r => cases r; rfl
  | own _ r => cases r
theorem vw_bl {b : Bool} (h : Vw K G H x (.bool b)) : x = .bl b := by
  cases h with
  | fro r => cases r; rfl
  | own _ r => cases r
theorem vw_non (h : Vw K G H x .none) : x = .non := by
  cases h with
  | fro r => cases r; rfl
  | own _ r => cases r
theorem vw_list {ds : List D} (s : Same G H) (h : Vw K G H x (.list ds)) : ∃ a xs, x = .ref a ∧ Rd H a (.lst xs) ∧ RpAll K G xs ds := by
  cases h with
  | fro r => cases r with
    | lst q a => exact ⟨_, _, rfl, rd_same s q, a⟩
  | own e r => cases r with
    | lst a => exact ⟨_, _, rfl, .inl e, a⟩
theorem vw_scr {ns : List Int} (s : Same G H) (h : Vw K G H x (.scr ns)) : ∃ a, x = .ref a ∧ SqL K H a (ns.map V.int) := by
  cases h with
  | fro r => cases r with
    | scr q => exact ⟨_, rfl, s.seq q⟩
  | own e r => cases r
theorem vw_tup {c : Tk} {ds : List D} (s : Same G H) (h : Vw K G H x (.tuple c ds)) : ∃ a xs, x = .ref a ∧ Rp K G x (.tuple c ds) ∧ SqT K H a xs ∧ RpAll K G xs ds := by
  cases h with
  | fro r =>
    obtain ⟨a, xs, rfl, q, ra, _⟩ := rp_tup r
    exact ⟨a, xs, rfl, r, sqT_same s q, ra⟩
  | own e r => cases r
theorem vw_rp {d : D} (s : Same G H) (h : Vw K G H x d) : Rp K H x d := by
  cases h with
  | fro r => exact rp_same s r
  | own e r => exact ob_rp (ob_same s r) e
theorem vw_dict {ps : List (D × D)} (s : Same G H) (h : Vw K G H x (.dict ps)) : ∃ a, x = .ref a ∧
    ((∃ (ks : List Key) (xs : List V) (ds : List D), Rd H a (.dK (ks.zip xs)) ∧ ks.length = xs.length ∧ RpAll K G xs ds ∧ ps = (ks.map keyD).zip ds) ∨
     (∃ (ks : List (List Key)) (xs : List V) (ds : List D), Rd H a (.dT (ks.zip xs)) ∧ ks.length = xs.length ∧ RpAll K G xs ds ∧ ps = (ks.map fun k => D.tuple .mad (k.map keyD)).zip ds)) := by
  cases h with
  | fro r => cases r with
    | dK q l a => exact ⟨_, rfl, .inl ⟨_, _, _, rd_same s q, l, a, rfl⟩⟩
    | dT q l a => exact ⟨_, rfl, .inr ⟨_, _, _, rd_same s q, l, a, rfl⟩⟩
  | own e r => cases r with
    | dK l a => exact ⟨_, rfl, .inl ⟨_, _, _, .inl e, l, a, rfl⟩⟩
    | dT l a => exact ⟨_, rfl, .inr ⟨_, _, _, .inl e, l, a, rfl⟩⟩
/-! ### keys -/
def keyOf : D → Option Key
  | .int i => some (.inl i)
  | .str x => some (.inr x)
  | _ => none
def keysOf : List D → Option (List Key)
  | [] => some []
  | d :: ds => match keyOf d, keysOf ds with
    | some k, some ks => some (k :: ks)
    | _, _ => none
/-- a text or an int, or a tuple of such -/
def kOf : D → Option (Key ⊕ List Key)
  | .tuple _ ds => (keysOf ds).map .inr
  | d => (keyOf d).map .inl
theorem keyOf_D (k : Key) : keyOf (keyD k) = some k := by cases k <;> rfl
theorem keysOf_D : ∀ ks : List Key, keysOf (ks.map keyD) = some ks
  | [] => rfl
  | k :: ks => by
    rw [List.map_cons]
    unfold keysOf
    rw [keyOf_D, keysOf_D ks]
theorem keyOf_inv : ∀ {d : D} {k : Key}, keyOf d = some k → d = keyD k
  | .int i, _, h => by cases h; rfl
  | .str x, _, h => by cases h; rfl
theorem keysOf_inv : ∀ {ds : List D} {ks : List Key}, keysOf ds = some ks → ds = ks.map keyD
  | [], _, h => by cases h; rfl
  | d :: ds, ks, h => by
    unfold keysOf at h
    split at h
    · rename_i k ks' h1 h2
      cases h
      rw [keyOf_inv h1, keysOf_inv h2]
      rfl
    · cases h
def look {α : Type} [DecidableEq α] (f : D → Option α) (k : α) : List (D × D) → Option D
  | [] => none
  | p :: r => if f p.1 = some k then some p.2 else look f k r
/-- what a dict has for a key -/
def dLook (ps : List (D × D)) (d : D) : Option D := match kOf d with
  | some k => look kOf k ps
  | none => none
theorem kOf_D (k : Key) : kOf (keyD k) = some (.inl k) := by cases k <;> rfl
theorem kOf_T (c : Tk) (k : List Key) : kOf (.tuple c (k.map keyD)) = some (.inr k) := by
  show (keysOf (k.map keyD)).map Sum.inr = _
  rw [keysOf_D]; rfl
theorem kOf_inl {d : D} {k : Key} (h : kOf d = some (.inl k)) : d = keyD k := by
  cases d with
  | tuple c ds =>
    obtain ⟨_, _, z⟩ := Option.map_eq_some_iff.mp (show (keysOf ds).map Sum.inr = _ from h)
    cases z
  | int i => cases h; rfl
  | str x => cases h; rfl
  | none => cases h
  | bool _ => cases h
  | list _ => cases h
  | dict _ => cases h
  | scr _ => cases h
theorem kOf_inr {d : D} {k : List Key} (h : kOf d = some (.inr k)) : ∃ c, d = .tuple c (k.map keyD) := by
  cases d with
  | tuple c ds =>
    obtain ⟨ks, e, z⟩ := Option.map_eq_some_iff.mp (show (keysOf ds).map Sum.inr = _ from h)
    cases z
    exact ⟨c, by rw [keysOf_inv e]⟩
  | int i => cases h
  | str x => cases h
  | none => cases h
  | bool _ => cases h
  | list _ => cases h
  | dict _ => cases h
  | scr _ => cases h
theorem look_K {k : Key} : ∀ {ks : List Key} {xs : List V} {ds : List D}, ks.length = xs.length → RpAll K G xs ds → (∃ v d, valV (ks.zip xs) k = some v ∧ look kOf (.inl k) ((ks.map keyD).zip ds) = some d ∧ Rp K G v d) ∨ (valV (ks.zip xs) k = none ∧ look kOf (.inl k) ((ks.map keyD).zip ds) = none)
  | [], _, _, _, _ => .inr ⟨rfl, rfl⟩
  | q :: ks, _, _, hl, .nil => by cases hl
  | q :: ks, _ :: xs, _ :: ds, hl, .cons r rs => by
    have ih := look_K (k := k) (ks := ks) (Nat.succ.inj hl) rs
    show (∃ v d, valV ((q, _) :: ks.zip xs) k = some v ∧ (if kOf (keyD q) = some (.inl k) then some _ else look kOf (.inl k) ((ks.map keyD).zip ds)) = some d ∧ _) ∨ (valV ((q, _) :: ks.zip xs) k = none ∧ (if kOf (keyD q) = some (.inl k) then some _ else look kOf (.inl k) ((ks.map keyD).zip ds)) = none)
    rw [kOf_D]
    by_cases e : q = k
    · subst e
      exact .inl ⟨_, _, valV_pos rfl, if_pos rfl, r⟩
    · rw [valV_neg (show ¬ (q, _).1 = k from e), if_neg (fun z => e (Sum.inl.inj (Option.some.inj z)))]
      exact ih
theorem look_T {k : List Key} : ∀ {ks : List (List Key)} {xs : List V} {ds : List D}, ks.length = xs.length → RpAll K G xs ds → (∃ v d, valV (ks.zip xs) k = some v ∧ look kOf (.inr k) ((ks.map fun k => D.tuple .mad (k.map keyD)).zip ds) = some d ∧ Rp K G v d) ∨ (valV (ks.zip xs) k = none ∧ look kOf (.inr k) ((ks.map fun k => D.tuple .mad (k.map keyD)).zip ds) = none)
  | [], _, _, _, _ => .inr ⟨rfl, rfl⟩
  | q :: ks, _, _, hl, .nil => by cases hl
  | q :: ks, _ :: xs, _ :: ds, hl, .cons r rs => by
    have ih := look_T (k := k) (ks := ks) (Nat.succ.inj hl) rs
    show (∃ v d, valV ((q, _) :: ks.zip xs) k = some v ∧ (if kOf (.tuple .mad (q.map keyD)) = some (.inr k) then some _ else look kOf (.inr k) ((ks.map fun k => D.tuple .mad (k.map keyD)).zip ds)) = some d ∧ _) ∨ (valV ((q, _) :: ks.zip xs) k = none ∧ (if kOf (.tuple .mad (q.map keyD)) = some (.inr k) then some _ else look kOf (.inr k) ((ks.map fun k => D.tuple .mad (k.map keyD)).zip ds)) = none)
    rw [kOf_T]
    by_cases e : q = k
    · subst e
      exact .inl ⟨_, _, valV_pos rfl, if_pos rfl, r⟩
    · rw [valV_neg (show ¬ (q, _).1 = k from e), if_neg (fun z => e (Sum.inr.inj (Option.some.inj z)))]
      exact ih
/-! ### dicts asked -/
def DG (K : PySem.W.Frag) (H : Hp) (a : Addr) (y : V) (r : Option V) : Prop :=
  (∃ kvs k, Rd H a (.dK kvs) ∧ y = kV k ∧ r = valV kvs k) ∨ (∃ kvs k b, Rd H a (.dT kvs) ∧ y = .ref b ∧ SqT K H b (k.map kV) ∧ r = valV kvs k)
/-- d and the keys are of one kind -/
def isTupD : D → Bool
  | .tuple _ _ => true
  | _ => false
def fits (ps : List (D × D)) (d : D) : Bool := ps.all fun p => isTupD p.1 == isTupD d
theorem rd0_KT {P : Program} {w : World} {h : Heap} {a : Addr} (ok : HOk P w H h) (e : Rd H a (.dK [])) : (a == sysModules) = false ∧ h.DictOfH (tupleKind (mixKind P w)) a [] := by
  obtain ⟨_, hd, vs, rel, o, es, ep, h1, h2, h3, h4, h5, h6⟩ := dk_rd ok e
  cases rel
  cases q : es.toList with
  | nil => exact ⟨hd, o, es, ep, h1, h2, h3, q, (fun x z => by cases z), List.nodup_nil⟩
  | cons _ _ => rw [q] at h5; cases h5
theorem rd0_TK {P : Program} {w : World} {h : Heap} {a : Addr} (ok : HOk P w H h) (e : Rd H a (.dT [])) : (a == sysModules) = false ∧ h.DictOf (mixKind P w) a [] := by
  obtain ⟨_, hd, xs, rel, o, es, ep, h1, h2, h3, h4, h5, h6⟩ := dt_rd ok e
  cases rel
  have z : es.toList = [] := h4
  refine ⟨hd, o, es, ep, h1, h2, h3, ?_, ?_, List.nodup_nil⟩
  · intro x hx
    have := Array.mem_toList_iff.mpr hx
    rw [z] at this
    cases this
  · rw [z]; exact .nil
/-- what a dict has, with the machine's own facts: keys ints and texts, or tuples -/
inductive DK (X : Cx) (H : Hp) (s : Shared) (a : Addr) : V → Option V → Prop
  | k {k : Key} {kvs : List (Key × V)} {vs : List (Key × Value)} : (a == sysModules) = false → KV kvs vs → s.heap.DictOf (mixKind X.prog X.w) a vs → DK X H s a (kV k) (valV kvs k)
  | t {k : List Key} {b : Addr} {kvs : List (List Key × V)} {xs : List (List Key × Addr × Value)} : (a == sysModules) = false → KT H kvs xs → s.heap.DictOfH (tupleKind (mixKind X.prog X.w)) a xs → (tupleKind (mixKind X.prog X.w)).is s.heap k b → DK X H s a (.ref b) (valV kvs k)
theorem key_sq {pins : List (Addr × Obj)} {σ : L2.St} {s : Shared} {b : Addr} {ks : List Key} (I : Inv X pins σ H s) (e : SqT X.K H b (ks.map kV)) : (tupleKind (mixKind X.prog X.w)).is s.heap ks b := by
  obtain ⟨its, rv, ⟨o, ho, hc, n, hd⟩, _⟩ := I.tuple e
  exact ⟨o, its.toArray, n, ho, hc, hd, by simpa using items_are rv⟩
theorem key_vals : ∀ {ks : List Key} {xs : List V}, RpAll K G xs (ks.map keyD) → xs = ks.map kV
  | [], _, .nil => rfl
  | k :: ks, _, .cons (v := v) r rs => by
    rw [key_vals rs]
    have : v = kV k := by
      cases k with
      | inl i => cases r; rfl
      | inr x => cases r; rfl
    rw [this]; rfl
theorem key_val {k : Key} {v : V} (r : Vw K G H v (keyD k)) : v = kV k := by
  cases k with
  | inl i => exact vw_int r
  | inr x => exact vw_str r
theorem zip_nil {α β : Type} {as : List α} {bs : List β} (hl : as.length = bs.length) (h : as.zip bs = []) : as = [] := by
  cases as with
  | nil => rfl
  | cons a as => cases bs with
    | nil => cases hl
    | cons b bs => cases h
/-- a dict that is read at a key that is read -/
theorem dk_of_vw {pins : List (Addr × Obj)} {σ : L2.St} {s : Shared} {y : V} {ps : List (D × D)} {d : D} {k : Key ⊕ List Key} (I : Inv X pins σ H s) (g : Same G H) (hx : Vw X.K G H x (.dict ps)) (hy : Vw X.K G H y d) (hk : kOf d = some k) (hf : fits ps d = true) :
    ∃ a r, x = .ref a ∧ DK X H s a y r ∧ ((∃ v e, r = some v ∧ dLook ps d = some e ∧ Rp X.K G v e) ∨ (r = none ∧ dLook ps d = none)) := by
  have lk : dLook ps d = look kOf k ps := by unfold dLook; rw [hk]
  obtain ⟨a, rfl, c⟩ := vw_dict g hx
  refine ⟨a, ?_⟩
  rcases k with k | k
  · have ed := kOf_inl hk
    subst ed
    have ey := key_val hy
    subst ey
    rcases c with ⟨ks, xs, ds, rd, hl, ra, rfl⟩ | ⟨ks, xs, ds, rd, hl, ra, rfl⟩
    · obtain ⟨_, hd, vs, rel, dd⟩ := dk_rd I.hok rd
      refine ⟨_, rfl, .k hd rel dd, ?_⟩
      rw [lk]
      rcases look_K (k := k) hl ra with ⟨v, e, h1, h2, h3⟩ | ⟨h1, h2⟩
      · exact .inl ⟨v, e, h1, h2, h3⟩
      · exact .inr ⟨h1, h2⟩
    · have e0 : ks = [] := by
        cases ks with
        | nil => rfl
        | cons q ks =>
          cases ra with
          | nil => cases hl
          | cons _ _ =>
            have := List.all_eq_true.mp hf _ List.mem_cons_self
            cases k <;> cases this
      subst e0
      obtain ⟨hd, dd⟩ := rd0_TK I.hok rd
      exact ⟨none, rfl, .k (kvs := []) (vs := []) hd .nil dd, .inr ⟨rfl, by rw [lk]; rfl⟩⟩
  · obtain ⟨c', ed⟩ := kOf_inr hk
    subst ed
    obtain ⟨b, ys, rfl, _, sq, ry⟩ := vw_tup g hy
    have ey := key_vals ry
    subst ey
    have isk := key_sq I sq
    rcases c with ⟨ks, xs, ds, rd, hl, ra, rfl⟩ | ⟨ks, xs, ds, rd, hl, ra, rfl⟩
    · have e0 : ks = [] := by
        cases ks with
        | nil => rfl
        | cons q ks =>
          cases ra with
          | nil => cases hl
          | cons _ _ =>
            have := List.all_eq_true.mp hf _ List.mem_cons_self
            cases q <;> cases this
      subst e0
      obtain ⟨hd, dd⟩ := rd0_KT I.hok rd
      exact ⟨none, rfl, .t (kvs := []) (xs := []) hd .nil dd isk, .inr ⟨rfl, by rw [lk]; rfl⟩⟩
    · obtain ⟨_, hd, vs, rel, dd⟩ := dt_rd I.hok rd
      refine ⟨_, rfl, .t hd rel dd isk, ?_⟩
      rw [lk]
      rcases look_T (k := k) hl ra with ⟨v, e, h1, h2, h3⟩ | ⟨h1, h2⟩
      · exact .inl ⟨v, e, h1, h2, h3⟩
      · exact .inr ⟨h1, h2⟩
theorem DK.typeIs {s : Shared} {a : Addr} {y : V} {r : Option V} (h : DK X H s a y r) : s.TypeIs (.ref a) "dict" ∧ (∀ b, Value.ref a = .ref b → ∃ ob, s.heap.get? b = some ob ∧ ob.dict = none) := by
  cases h with
  | k _ _ dd =>
    refine ⟨dd.typeIs, fun b q => ?_⟩
    cases q
    obtain ⟨ob, _, _, h1, h2, _⟩ := dd
    exact ⟨ob, h1, h2.2.1⟩
  | t _ _ dd _ =>
    refine ⟨dd.typeIs, fun b q => ?_⟩
    cases q
    obtain ⟨ob, _, _, h1, h2, _⟩ := dd
    exact ⟨ob, h1, h2.2.1⟩
variable {A : Around} {E : Value → Shared → Prop} {s : Shared} {a : Addr} {y v : V} {u : Value} {o : Option V}
theorem dk_get {Q : Value → Shared → Prop} (hu : A.units + 1 < cLine) (g : DK X H s a y (some v)) (ry : RelV y u) (h : ∀ w' t, RelV v w' → Q w' { s with toks := t }) : wpAny (model X.prog X.w) A (getItem (.ref a) u) Q E s := by
  generalize e : (some v : Option V) = r at g
  cases g with
  | k hd rel dd =>
    obtain ⟨w', hw, rw'⟩ := RelO.some_of (v := v) (o := valueAt _ _) (by rw [e]; exact rel.val _)
    exact wpAny_getItem_of (kV_is ry) dd.mapOf hw (h w' _ rw')
  | t hd rel dd hk =>
    cases ry
    obtain ⟨w', hw, rw'⟩ := RelO.some_of (v := v) (o := (atKey _ _).map (·.2)) (by rw [e]; exact rel.val _)
    obtain ⟨p, hp, hp2⟩ := Option.map_eq_some_iff.mp hw
    refine wpAny_getItem_heap (tupleKind_room_in1 hu) hk dd hp ?_
    rw [hp2]
    exact h w' _ rw'
theorem dk_in {Q : Value → Shared → Prop} (hu : A.units + 1 < cLine) (g : DK X H s a y o) (ry : RelV y u) (h : ∀ t, Q (.bool o.isSome) { s with toks := t }) : wpAny (model X.prog X.w) A (compareOp .In u (.ref a)) Q E s := by
  cases g with
  | k hd rel dd =>
    refine wpAny_in_of (kV_is ry) hd dd.mapOf ?_
    rw [← (rel.val _).isSome_eq]
    exact h _
  | @t kk _ _ _ hd rel dd hk =>
    cases ry
    refine wpAny_in_heap (tupleKind_room_in1 hu) hk hd dd ?_
    have q := (rel.val kk).isSome_eq
    rw [Option.isSome_map] at q
    rw [← q]
    exact h _
theorem dk_notIn {Q : Value → Shared → Prop} (hu : A.units + 1 < cLine) (g : DK X H s a y o) (ry : RelV y u) (h : ∀ t, Q (.bool (!o.isSome)) { s with toks := t }) : wpAny (model X.prog X.w) A (compareOp .NotIn u (.ref a)) Q E s := by
  cases g with
  | k hd rel dd =>
    refine wpAny_notIn_of (kV_is ry) hd dd.mapOf ?_
    rw [← (rel.val _).isSome_eq]
    exact h _
  | @t kk _ _ _ hd rel dd hk =>
    cases ry
    refine wpAny_notIn_heap (tupleKind_room_in1 hu) hk hd dd ?_
    have q := (rel.val kk).isSome_eq
    rw [Option.isSome_map] at q
    rw [← q]
    exact h _
theorem dk_get2 {d : V} {r : Value} {Q : Value → Shared → Prop} (hu : A.units + 1 < cLine) (g : DK X H s a y o) (ry : RelV y u) (rd : RelV d r) (h : ∀ w' t, RelV (o.getD d) w' → Q w' { s with toks := t }) : wpAny (model X.prog X.w) A (call (.builtin "dict.get") [.ref a, u, r]) Q E s := by
  cases g with
  | k hd rel dd => exact call_meetsIn PySem.F.slot_dict_get dd.typeIs PySem.F.entry_dict_get (PySem.F.args_dict_get_3 _ _ _) (meets_dict_get_default (mixKind X.prog X.w) a (kV_is ry) hd r) ⟨_, dd.mapOf, h _ _ ((rel.val _).getD rd)⟩
  | t hd rel dd hk =>
    cases ry
    exact call_meetsIn PySem.F.slot_dict_get dd.typeIs PySem.F.entry_dict_get (PySem.F.args_dict_get_3 _ _ _) (meetsH_dict_get_default (tupleKind (mixKind X.prog X.w)) a _ hd r) ⟨tupleKind_room_in1 hu, _, _, hk, dd, h _ _ ((rel.val _).getD rd)⟩
theorem dk_get1 {Q : Value → Shared → Prop} (hu : A.units + 1 < cLine) (g : DK X H s a y o) (ry : RelV y u) (h : ∀ w' t, RelV (o.getD .non) w' → Q w' { s with toks := t }) : wpAny (model X.prog X.w) A (call (.builtin "dict.get") [.ref a, u]) Q E s := by
  cases g with
  | k hd rel dd => exact call_meetsIn PySem.F.slot_dict_get dd.typeIs PySem.F.entry_dict_get (PySem.F.args_dict_get_2 _ _) (meets_dict_get (mixKind X.prog X.w) a (kV_is ry) hd) ⟨_, dd.mapOf, h _ _ ((rel.val _).getD rfl)⟩
  | t hd rel dd hk =>
    cases ry
    exact call_meetsIn PySem.F.slot_dict_get dd.typeIs PySem.F.entry_dict_get (PySem.F.args_dict_get_2 _ _) (meetsH_dict_get (tupleKind (mixKind X.prog X.w)) a _ hd) ⟨tupleKind_room_in1 hu, _, _, hk, dd, h _ _ ((rel.val _).getD rfl)⟩
end
end Dl

set_option Elab.async false
set_option linter.all false
set_option maxRecDepth 100000
set_option maxHeartbeats 4000000
namespace Dl
open PySem PySem.Spec PyProof.Rows L2 Br
/-! ### operations by data -/
abbrev Then (K : PySem.W.Frag) (π : PF) (G H : Hp) (Q : VK) : D → Prop := fun d => ∀ v G' H', Same G' H' → Stp Pure G H G' H' → π H G' H' v d → Q v H'
def rO2 (K : PySem.W.Frag) (π : PF) (o : O2) : R2 := fun x y H Q => ∃ G a b, Same G H ∧ Vw K G H x a ∧ Vw K G H y b ∧ o a b (Then K π G H Q)
def rO1 (K : PySem.W.Frag) (π : PF) (o : O1) : V → Hp → VK → Prop := fun x H Q => ∃ G a, Same G H ∧ Vw K G H x a ∧ o a (Then K π G H Q)
def rOn (K : PySem.W.Frag) (π : PF) (o : On) : List V → Hp → VK → Prop := fun xs H Q => ∃ G as, Same G H ∧ RpAll K G xs as ∧ o as (Then K π G H Q)
def Mo1 (o : O1) : Prop := ∀ a (k k' : D → Prop), (∀ d, k d → k' d) → o a k → o a k'
def Mo2 (o : O2) : Prop := ∀ a b (k k' : D → Prop), (∀ d, k d → k' d) → o a b k → o a b k'
def Mon (o : On) : Prop := ∀ as (k k' : D → Prop), (∀ d, k d → k' d) → o as k → o as k'
theorem op2_of {K : PySem.W.Frag} {π : PF} {o : O2} (m : Mo2 o) : Op2 K π (rO2 K π o) o := ⟨m, fun G H x y a b Q s hx hy q => ⟨G, a, b, s, hx, hy, q⟩⟩
theorem op1_of {K : PySem.W.Frag} {π : PF} {o : O1} (m : Mo1 o) : Op1 K π (rO1 K π o) o := ⟨m, fun G H x a Q s hx q => ⟨G, a, s, hx, q⟩⟩
theorem opn_of {K : PySem.W.Frag} {π : PF} {o : On} (m : Mon o) : Opn K π (rOn K π o) o := ⟨m, fun G H xs as Q s hx q => ⟨G, as, s, hx, q⟩⟩
section
variable {X : Cx} {pins : List (Addr × Obj)} {σ : L2.St} {G H : Hp} {s : Shared} {Q : VK}
/-- the heap stays -/
theorem stay {K : PySem.W.Frag} {d : D} {v : V} (g : Same G H) (q : Then K (pE K) G H Q d) (r : Rp K G v d) : Q v H := q v G H g .refl r
/-- a new tuple, a new list taken in -/
theorem newG {K : PySem.W.Frag} {d : D} {p : Addr} {o : HO} (g : Same G H) (q : Then K (pE K) G H Q d) (np : H p = none) (r : Rp K (upd G p o) (.ref p) d) : Q (.ref p) (upd H p o) :=
  q _ _ _ (same_new2 g np) (stp_newG g np) r
theorem rps_app {K : PySem.W.Frag} : ∀ {vs ws : List V} {xs ys : List D}, RpAll K G vs xs → RpAll K G ws ys → RpAll K G (vs ++ ws) (xs ++ ys)
  | _, _, _, _, .nil, b => b
  | _, _, _, _, .cons a r, b => .cons a (rps_app r b)
/-- what a tuple made of two is -/
def tkAdd : Tk → Tk → Tk
  | .mad, .mad => .mad
  | _, _ => .wri
theorem rp_any {K : PySem.W.Frag} {v : V} {c e : Tk} {ds : List D} (h : Rp K G v (.tuple .mad ds)) : Rp K G v (.tuple (tkAdd c e) ds) := by
  cases c <;> cases e <;> first | exact h | exact rp_weak h
theorem rp_andL {K : PySem.W.Frag} {v : V} {c e : Tk} {ds : List D} (h : Rp K G v (.tuple c ds)) : Rp K G v (.tuple (tkAdd c e) ds) := by
  cases c <;> cases e <;> first | exact h | exact rp_weak h
theorem rp_andR {K : PySem.W.Frag} {v : V} {c e : Tk} {ds : List D} (h : Rp K G v (.tuple e ds)) : Rp K G v (.tuple (tkAdd c e) ds) := by
  cases c <;> cases e <;> first | exact h | exact rp_weak h
def oAdd : O2 := fun a b k => match a, b with
  | .int i, .int j => k (.int (i + j))
  | .str x, .str y => x.length + y.length ≤ sizeLine ∧ k (.str (x ++ y))
  | .list xs, .list ys => xs.length + ys.length ≤ sizeLine ∧ k (.list (xs ++ ys))
  | .tuple c xs, .tuple e ys => xs.length + ys.length ≤ sizeLine ∧ k (.tuple (tkAdd c e) (xs ++ ys))
  | _, _ => False
theorem mo_add : Mo2 oAdd := fun a b k k' w h => by
  cases a <;> cases b <;> first | exact h.elim | exact w _ h | exact ⟨h.1, w _ h.2⟩
theorem opr_add : OpR X (binaryOp .Add) (rO2 X.K (pE X.K) oAdd) := by
  intro pins s σ H x y v u Q I rx ry h
  obtain ⟨G, a, b, g, hx, hy, q⟩ := h
  cases a <;> cases b <;> first | exact q.elim | skip
  · have ex := vw_int hx
    have ey := vw_int hy
    subst ex ey
    exact op_add pins s σ H _ _ v u Q I rx ry ⟨_, _, rfl, rfl, stay g q (.int _)⟩
  · have ex := vw_str hx
    have ey := vw_str hy
    subst ex ey
    exact op_add_str pins s σ H _ _ v u Q I rx ry ⟨_, _, rfl, rfl, q.1, stay g q.2 (.str _)⟩
  · obtain ⟨l, xs, rfl, h1, r1⟩ := vw_list g hx
    obtain ⟨b, ys, rfl, h2, r2⟩ := vw_list g hy
    cases rx
    cases ry
    obtain ⟨z, its, n, rv, e⟩ := (show ObjOk X.prog X.w H s.heap l (.lst xs) from h1.ok I.hok)
    obtain ⟨z2, its2, n2, rv2, e2⟩ := (show ObjOk X.prog X.w H s.heap b (.lst ys) from h2.ok I.hok)
    have l1 := rps_len r1
    have l2 := rps_len r2
    have l3 := rv.length
    have l4 := rv2.length
    have hz := q.1
    refine PySem.P.add_list e e2 ?_ (by rw [List.size_toArray, List.size_toArray]; omega)
    rw [show its.toArray ++ its2.toArray = (its ++ its2).toArray by simp]
    exact ⟨.ref _, _, I.lnew (t' := s.toks) (rv.append rv2) (by rw [List.length_append]; omega), rfl, newG g q.2 I.fresh (.lst (.inl upd_same) (rps_same (same_upd (g.free I.fresh)) (rps_app r1 r2)))⟩
  · obtain ⟨l, xs, rfl, s1, h1, r1⟩ := vw_tup g hx
    obtain ⟨b, ys, rfl, s2, h2, r2⟩ := vw_tup g hy
    have l1 := rps_len r1
    have l2 := rps_len r2
    have hz := q.1
    refine op_catA pins s σ H _ _ v u Q I rx ry ⟨l, b, xs, ys, rfl, rfl, h1, h2, by omega, fun e => ?_, fun _ e => ?_, fun _ _ p np => ?_⟩
    · subst e
      cases r1
      exact stay g q.2 (rp_andR s2)
    · subst e
      cases r2
      exact stay g q.2 (by rw [List.append_nil]; exact rp_andL s1)
    · exact newG g q.2 np (rp_any (.tup upd_same (rps_same (same_upd (g.free np)) (rps_app r1 r2))))
def oSub : O2 := fun a b k => match a, b with
  | .int i, .int j => k (.int (i - j))
  | _, _ => False
def oMod : O2 := fun a b k => match a, b with
  | .int i, .int j => 0 < j ∧ k (.int (i % j))
  | _, _ => False
def oFdiv : O2 := fun a b k => match a, b with
  | .int i, .int j => (0 < j ∧ j < 1073741824) ∧ k (.int (i / j))
  | _, _ => False
def oMul : O2 := fun a b k => match a, b with
  | .int i, .int j => ((-(2 ^ 64) < i ∧ i < 2 ^ 64) ∨ (-(2 ^ 64) < j ∧ j < 2 ^ 64)) ∧ k (.int (i * j))
  | _, _ => False
def oPow : O2 := fun a b k => match a, b with
  | .int i, .int j => (0 ≤ j ∧ j ≤ 1000000 ∧ i.natAbs < 2 ^ 64) ∧ k (.int (i ^ j.toNat))
  | _, _ => False
def oNeg : O1 := fun a k => match a with
  | .int i => k (.int (-i))
  | _ => False
theorem mo_sub : Mo2 oSub := fun a b k k' w h => by cases a <;> cases b <;> first | exact h.elim | exact w _ h
theorem mo_mod : Mo2 oMod := fun a b k k' w h => by cases a <;> cases b <;> first | exact h.elim | exact ⟨h.1, w _ h.2⟩
theorem mo_fdiv : Mo2 oFdiv := fun a b k k' w h => by cases a <;> cases b <;> first | exact h.elim | exact ⟨h.1, w _ h.2⟩
theorem mo_mul : Mo2 oMul := fun a b k k' w h => by cases a <;> cases b <;> first | exact h.elim | exact ⟨h.1, w _ h.2⟩
theorem mo_pow : Mo2 oPow := fun a b k k' w h => by cases a <;> cases b <;> first | exact h.elim | exact ⟨h.1, w _ h.2⟩
theorem mo_neg : Mo1 oNeg := fun a k k' w h => by cases a <;> first | exact h.elim | exact w _ h
theorem opr_ints {f : Value → Value → Sem Value} {C : Int → Int → Prop} {fn : Int → Int → V} {fd : Int → Int → D} {o : O2} (hr : OpR X f (rI C fn)) (hrp : ∀ i j, Rp X.K G (fn i j) (fd i j)) : True := trivial
theorem opr_sub : OpR X (binaryOp .Sub) (rO2 X.K (pE X.K) oSub) := by
  intro pins s σ H x y v u Q I rx ry h
  obtain ⟨G, a, b, g, hx, hy, q⟩ := h
  cases a <;> cases b <;> first | exact q.elim | skip
  have ex := vw_int hx
  have ey := vw_int hy
  subst ex ey
  exact op_sub pins s σ H _ _ v u Q I rx ry ⟨_, _, rfl, rfl, stay g q (.int _)⟩
theorem opr_mod : OpR X (binaryOp .Mod) (rO2 X.K (pE X.K) oMod) := by
  intro pins s σ H x y v u Q I rx ry h
  obtain ⟨G, a, b, g, hx, hy, q⟩ := h
  cases a <;> cases b <;> first | exact q.elim | skip
  have ex := vw_int hx
  have ey := vw_int hy
  subst ex ey
  exact op_mod pins s σ H _ _ v u Q I rx ry ⟨_, _, rfl, rfl, q.1, stay g q.2 (.int _)⟩
theorem opr_fdiv : OpR X (binaryOp .FloorDiv) (rO2 X.K (pE X.K) oFdiv) := by
  intro pins s σ H x y v u Q I rx ry h
  obtain ⟨G, a, b, g, hx, hy, q⟩ := h
  cases a <;> cases b <;> first | exact q.elim | skip
  have ex := vw_int hx
  have ey := vw_int hy
  subst ex ey
  exact op_fdiv pins s σ H _ _ v u Q I rx ry ⟨_, _, rfl, rfl, q.1, stay g q.2 (.int _)⟩
theorem opr_mul : OpR X (binaryOp .Mult) (rO2 X.K (pE X.K) oMul) := by
  intro pins s σ H x y v u Q I rx ry h
  obtain ⟨G, a, b, g, hx, hy, q⟩ := h
  cases a <;> cases b <;> first | exact q.elim | skip
  have ex := vw_int hx
  have ey := vw_int hy
  subst ex ey
  exact op_mul pins s σ H _ _ v u Q I rx ry ⟨_, _, rfl, rfl, q.1, stay g q.2 (.int _)⟩
theorem opr_pow : OpR X (binaryOp .Pow) (rO2 X.K (pE X.K) oPow) := by
  intro pins s σ H x y v u Q I rx ry h
  obtain ⟨G, a, b, g, hx, hy, q⟩ := h
  cases a <;> cases b <;> first | exact q.elim | skip
  have ex := vw_int hx
  have ey := vw_int hy
  subst ex ey
  exact op_pow pins s σ H _ _ v u Q I rx ry ⟨_, _, rfl, rfl, q.1, stay g q.2 (.int _)⟩
theorem unr_neg : UnR X (unaryOp .USub) (rO1 X.K (pE X.K) oNeg) := by
  intro pins s σ H x v Q I rx h
  obtain ⟨G, a, g, hx, q⟩ := h
  cases a <;> first | exact q.elim | skip
  have ex := vw_int hx
  subst ex
  exact un_neg pins s σ H _ v Q I rx ⟨_, rfl, stay g q (.int _)⟩
/-! comparisons -/
mutual
theorem rp_dp' {K : PySem.W.Frag} : ∀ (d : D) (v : V), Rp K H v d → (toPy d).canLay0 = true → Dp K H v (toPy d)
  | .none, _, .non, _ => .non
  | .bool _, _, .bl b, _ => .bl b
  | .int _, _, .int i, _ => .int i
  | .str _, _, .str x, _ => .str x
  | .list ds, _, .lst s a, h => .lst (.inl s) (rps_dp' ds _ a h)
  | .tuple .mad ds, _, .tup s a, h => .tup (SqT.of s) (rps_dp' ds _ a h)
  | .tuple .wri ds, _, .tupC s a, h => .tup s (rps_dp' ds _ a h)
  | .tuple .frz ds, _, .tupZ s _ a, h => .tup (.inl (.inr ⟨_, s⟩)) (rps_dp' ds _ a h)
  | .dict _, _, _, h => (Bool.false_ne_true h).elim
  | .scr _, _, _, h => (Bool.false_ne_true h).elim
theorem rps_dp' {K : PySem.W.Frag} : ∀ (ds : List D) (vs : List V), RpAll K H vs ds → PyData.canLayAll0 (toPys ds) = true → DpAll K H vs (toPys ds)
  | [], _, .nil, _ => .nil
  | d :: ds, _, .cons x r, h => .cons (rp_dp' d _ x (Bool.and_eq_true_iff.mp h).1) (rps_dp' ds _ r (Bool.and_eq_true_iff.mp h).2)
end
theorem rp_dp {K : PySem.W.Frag} {v : V} {d : D} (h : Rp K H v d) (z : (toPy d).canLay0 = true) : Dp K H v (toPy d) := rp_dp' d v h z
def shp (d : D) : Prop := SeqAt.shaped (toPy d) = true
def eqd (a b : D) : Bool := PyData.eqv (toPy a) (toPy b)
theorem any_py {a : D} : ∀ ds : List D, (toPys ds).any (fun z => PyData.eqv z (toPy a)) = ds.any fun z => eqd z a
  | [] => rfl
  | d :: ds => by
    show (PyData.eqv (toPy d) (toPy a) || (toPys ds).any fun z => PyData.eqv z (toPy a)) = (eqd d a || ds.any fun z => eqd z a)
    rw [any_py ds]; rfl
def oEq : O2 := fun a b k => match a, b with
  | .int i, .int j => k (.bool (decide (i = j)))
  | .str x, .str y => k (.bool (decide (x = y)))
  | a, b => shp a ∧ shp b ∧ k (.bool (eqd a b))
def oNe : O2 := fun a b k => match a, b with
  | .int i, .int j => k (.bool (!decide (i = j)))
  | .str x, .str y => k (.bool (!decide (x = y)))
  | a, b => shp a ∧ shp b ∧ k (.bool (!eqd a b))
theorem mo_eq : Mo2 oEq := fun a b k k' w h => by cases a <;> cases b <;> first | exact w _ h | exact ⟨h.1, h.2.1, w _ h.2.2⟩
theorem mo_ne : Mo2 oNe := fun a b k k' w h => by cases a <;> cases b <;> first | exact w _ h | exact ⟨h.1, h.2.1, w _ h.2.2⟩
theorem dint {i j : Int} : decide (V.int i = V.int j) = decide (i = j) := by
  rw [Bool.eq_iff_iff]; simp
theorem dstr {i j : Str} : decide (V.str i = V.str j) = decide (i = j) := by
  rw [Bool.eq_iff_iff]; simp
theorem opr_eq (hu : X.A.units + 64 < cLine) : OpR X (compareOp .Eq) (rO2 X.K (pE X.K) oEq) := by
  intro pins s σ H x y v u Q I rx ry h
  obtain ⟨G, a, b, g, hx, hy, q⟩ := h
  have gen : (shp a ∧ shp b ∧ Then X.K (pE X.K) G H Q (.bool (eqd a b))) → wpAny (model X.prog X.w) X.A (compareOp .Eq v u) (EP X pins σ Q) X.xe s := fun q =>
    op_eqD hu pins s σ H _ _ v u Q I rx ry ⟨toPy a, toPy b, rp_dp (vw_rp g hx) (SeqAt.canLay_of_shaped q.1), rp_dp (vw_rp g hy) (SeqAt.canLay_of_shaped q.2.1), q.1, q.2.1, stay g q.2.2 (.bl _)⟩
  cases a <;> cases b <;> first | exact gen q | skip
  · have ex := vw_int hx
    have ey := vw_int hy
    subst ex ey
    exact op_eq pins s σ H _ _ v u Q I rx ry ⟨rfl, by rw [dint]; exact stay g q (.bl _)⟩
  · have ex := vw_str hx
    have ey := vw_str hy
    subst ex ey
    exact op_eq pins s σ H _ _ v u Q I rx ry ⟨rfl, by rw [dstr]; exact stay g q (.bl _)⟩
theorem opr_ne (hu : X.A.units + 64 < cLine) : OpR X (compareOp .NotEq) (rO2 X.K (pE X.K) oNe) := by
  intro pins s σ H x y v u Q I rx ry h
  obtain ⟨G, a, b, g, hx, hy, q⟩ := h
  have gen : (shp a ∧ shp b ∧ Then X.K (pE X.K) G H Q (.bool (!eqd a b))) → wpAny (model X.prog X.w) X.A (compareOp .NotEq v u) (EP X pins σ Q) X.xe s := fun q =>
    op_neD hu pins s σ H _ _ v u Q I rx ry ⟨toPy a, toPy b, rp_dp (vw_rp g hx) (SeqAt.canLay_of_shaped q.1), rp_dp (vw_rp g hy) (SeqAt.canLay_of_shaped q.2.1), q.1, q.2.1, stay g q.2.2 (.bl _)⟩
  cases a <;> cases b <;> first | exact gen q | skip
  · have ex := vw_int hx
    have ey := vw_int hy
    subst ex ey
    exact op_ne pins s σ H _ _ v u Q I rx ry ⟨rfl, by rw [dint]; exact stay g q (.bl _)⟩
  · have ex := vw_str hx
    have ey := vw_str hy
    subst ex ey
    exact op_ne pins s σ H _ _ v u Q I rx ry ⟨rfl, by rw [dstr]; exact stay g q (.bl _)⟩
def oCmp (fi : Int → Int → Bool) (fs : List Nat → List Nat → Bool) : O2 := fun a b k => match a, b with
  | .int i, .int j => k (.bool (fi i j))
  | .str x, .str y => k (.bool (fs x.cps.toList y.cps.toList))
  | _, _ => False
theorem mo_cmp {fi : Int → Int → Bool} {fs : List Nat → List Nat → Bool} : Mo2 (oCmp fi fs) := fun a b k k' w h => by cases a <;> cases b <;> first | exact h.elim | exact w _ h
theorem opr_cmp {op : CmpOp} {fi : Int → Int → Bool} {fs : List Nat → List Nat → Bool} (hi : OpR X (compareOp op) (rI0 fun i j => .bl (fi i j))) (hs : OpR X (compareOp op) (fun x y H Q => ∃ i j, x = .str i ∧ y = .str j ∧ Q (.bl (fs i.cps.toList j.cps.toList)) H)) : OpR X (compareOp op) (rO2 X.K (pE X.K) (oCmp fi fs)) := by
  intro pins s σ H x y v u Q I rx ry h
  obtain ⟨G, a, b, g, hx, hy, q⟩ := h
  cases a <;> cases b <;> first | exact q.elim | skip
  · have ex := vw_int hx
    have ey := vw_int hy
    subst ex ey
    exact hi pins s σ H _ _ v u Q I rx ry ⟨_, _, rfl, rfl, stay g q (.bl _)⟩
  · have ex := vw_str hx
    have ey := vw_str hy
    subst ex ey
    exact hs pins s σ H _ _ v u Q I rx ry ⟨_, _, rfl, rfl, stay g q (.bl _)⟩
abbrev oLt : O2 := oCmp (fun i j => decide (i < j)) fun a b => decide (a < b)
abbrev oLe : O2 := oCmp (fun i j => decide (i ≤ j)) fun a b => !decide (b < a)
abbrev oGt : O2 := oCmp (fun i j => decide (j < i)) fun a b => decide (b < a)
abbrev oGe : O2 := oCmp (fun i j => decide (j ≤ i)) fun a b => !decide (a < b)
theorem opr_lt : OpR X (compareOp .Lt) (rO2 X.K (pE X.K) oLt) := opr_cmp op_lt op_lt_str
theorem opr_le : OpR X (compareOp .LtE) (rO2 X.K (pE X.K) oLe) := opr_cmp op_le op_le_str
theorem opr_gt : OpR X (compareOp .Gt) (rO2 X.K (pE X.K) oGt) := opr_cmp op_gt op_gt_str
theorem opr_ge : OpR X (compareOp .GtE) (rO2 X.K (pE X.K) oGe) := opr_cmp op_ge op_ge_str
theorem xor_f (b : Bool) : (b != false) = b := by cases b <;> rfl
theorem xor_t (b : Bool) : (b != true) = !b := by cases b <;> rfl
def isNon : D → Bool
  | .none => true
  | _ => false
def oIsN (neg : Bool) : O2 := fun a b k => match b with
  | .none => k (.bool (isNon a != neg))
  | _ => False
theorem mo_isN {neg : Bool} : Mo2 (oIsN neg) := fun a b k k' w h => by cases b <;> first | exact h.elim | exact w _ h
theorem isNon_V {K : PySem.W.Frag} {x : V} {a : D} (h : Vw K G H x a) : decide (x = .non) = isNon a := by
  cases h with
  | fro r => cases r <;> rfl
  | own _ r => cases r <;> rfl
theorem opr_isN : OpR X (compareOp .Is) (rO2 X.K (pE X.K) (oIsN false)) := by
  intro pins s σ H x y v u Q I rx ry h
  obtain ⟨G, a, b, g, hx, hy, q⟩ := h
  cases b <;> first | exact q.elim | skip
  have ey := vw_non hy
  subst ey
  refine op_isN pins s σ H _ _ v u Q I rx ry ⟨rfl, ?_⟩
  rw [isNon_V hx]
  unfold oIsN at q
  dsimp only at q
  rw [xor_f] at q
  exact stay g q (.bl _)
theorem opr_notN : OpR X (compareOp .IsNot) (rO2 X.K (pE X.K) (oIsN true)) := by
  intro pins s σ H x y v u Q I rx ry h
  obtain ⟨G, a, b, g, hx, hy, q⟩ := h
  cases b <;> first | exact q.elim | skip
  have ey := vw_non hy
  subst ey
  refine op_notN pins s σ H _ _ v u Q I rx ry ⟨rfl, ?_⟩
  rw [isNon_V hx]
  unfold oIsN at q
  dsimp only at q
  rw [xor_t] at q
  exact stay g q (.bl _)
/-! in -/
def toV : D → V
  | .int i => .int i
  | .str x => .str x
  | .bool b => .bl b
  | _ => .non
def flatD : D → Bool
  | .none => true
  | .bool _ => true
  | .int _ => true
  | .str _ => true
  | _ => false
theorem flat_V {K : PySem.W.Frag} {x : V} {a : D} (h : Rp K G x a) (f : flatD a = true) : x = toV a ∧ flatV x = true := by
  cases h <;> first | exact ⟨rfl, rfl⟩ | cases f
theorem flat_Vs {K : PySem.W.Frag} : ∀ {xs : List V} {as : List D}, RpAll K G xs as → as.all flatD = true → xs = as.map toV ∧ xs.all flatV = true
  | _, _, .nil, _ => ⟨rfl, rfl⟩
  | _, _, .cons r rs, f => by
    rw [List.all_cons, Bool.and_eq_true] at f
    obtain ⟨h1, h2⟩ := flat_V r f.1
    obtain ⟨h3, h4⟩ := flat_Vs rs f.2
    exact ⟨by rw [h1, h3]; rfl, by rw [List.all_cons, h2, h4]; rfl⟩
def memD (a : D) (ds : List D) : Bool := ds.any fun e => eqV (toV e) (toV a)
def oIn (neg : Bool) : O2 := fun a b k => match b with
  | .dict ps => (kOf a).isSome = true ∧ fits ps a = true ∧ k (.bool ((dLook ps a).isSome != neg))
  | .list ds => if (flatD a && ds.all flatD) = true then k (.bool (memD a ds != neg)) else shp a ∧ shp (.list ds) ∧ k (.bool ((ds.any fun z => eqd z a) != neg))
  | .tuple _ ds => flatD a = true ∧ ds.all flatD = true ∧ k (.bool (memD a ds != neg))
  | .str z => match a with
    | .str x => match x.cps.toList with
      | [c] => k (.bool (decide (c ∈ z.cps.toList) != neg))
      | _ => False
    | _ => False
  | _ => False
theorem mo_in {neg : Bool} : Mo2 (oIn neg) := fun a b k k' w h => by
  cases b with
  | dict ps => exact ⟨h.1, h.2.1, w _ h.2.2⟩
  | tuple c ds => exact ⟨h.1, h.2.1, w _ h.2.2⟩
  | list ds =>
    unfold oIn at h ⊢
    dsimp only at h ⊢
    split
    · rename_i e
      rw [if_pos e] at h
      exact w _ h
    · rename_i e
      rw [if_neg e] at h
      exact ⟨h.1, h.2.1, w _ h.2.2⟩
  | str z =>
    cases a <;> first | exact h.elim | skip
    rename_i x
    unfold oIn at h ⊢
    dsimp only at h ⊢
    split at h
    · exact w _ h
    · exact h.elim
  | _ => exact h.elim
theorem str1 {x : Str} {c : Nat} (h : x.cps.toList = [c]) : x = ⟨#[c]⟩ := by
  obtain ⟨a⟩ := x
  have : a = #[c] := by
    apply Array.ext'
    exact h
  rw [this]
theorem opr_in (hu : X.A.units + 65 < cLine) : OpR X (compareOp .In) (rO2 X.K (pE X.K) (oIn false)) := by
  intro pins s σ H x y v u Q I rx ry h
  obtain ⟨G, a, b, g, hx, hy, q⟩ := h
  unfold oIn at q
  cases b with
  | dict ps =>
    obtain ⟨h1, h2, q⟩ := q
    obtain ⟨k, hk⟩ := Option.isSome_iff_exists.mp h1
    obtain ⟨p, r, rfl, dk, c⟩ := dk_of_vw I g hy hx hk h2
    cases ry
    refine dk_in (by omega) dk rx fun t => ⟨.bl _, H, I.tok _, rfl, ?_⟩
    rw [xor_f] at q
    rcases c with ⟨v', e, rfl, e2, _⟩ | ⟨rfl, e2⟩
    · rw [e2] at q; exact stay g q (.bl _)
    · rw [e2] at q; exact stay g q (.bl _)
  | tuple c ds =>
    obtain ⟨h1, h2, q⟩ := q
    obtain ⟨b, ys, rfl, _, sq, r2⟩ := vw_tup g hy
    have rx' := vw_rp g hx
    obtain ⟨ex, fx⟩ := flat_V rx' h1
    obtain ⟨ey, fy⟩ := flat_Vs r2 h2
    refine op_in_seq pins s σ H _ _ v u Q I rx ry ⟨b, ys, rfl, .inr sq, fx, fy, ?_⟩
    rw [xor_f] at q
    have : inV x ys = memD a ds := by subst ex ey; unfold inV memD; rw [List.any_map]; rfl
    rw [if_neg Bool.false_ne_true, this]
    exact stay g q (.bl _)
  | list ds =>
    obtain ⟨b, ys, rfl, sq, r2⟩ := vw_list g hy
    dsimp only at q
    split at q
    · rename_i e
      rw [Bool.and_eq_true] at e
      have rx' := vw_rp g hx
      obtain ⟨ex, fx⟩ := flat_V rx' e.1
      obtain ⟨ey, fy⟩ := flat_Vs r2 e.2
      refine op_in_seq pins s σ H _ _ v u Q I rx ry ⟨b, ys, rfl, .inl (.inl sq), fx, fy, ?_⟩
      rw [xor_f] at q
      have : inV x ys = memD a ds := by subst ex ey; unfold inV memD; rw [List.any_map]; rfl
      rw [if_neg Bool.false_ne_true, this]
      exact stay g q (.bl _)
    · rw [xor_f] at q
      exact op_inD hu pins s σ H _ _ v u Q I rx ry ⟨toPy a, toPys ds, rp_dp (vw_rp g hx) (SeqAt.canLay_of_shaped q.1), rp_dp (vw_rp g hy) (SeqAt.canLay_of_shaped q.2.1), q.1, q.2.1, by rw [any_py]; exact stay g q.2.2 (.bl _)⟩
  | str z =>
    cases a <;> first | exact q.elim | skip
    dsimp only at q
    split at q
    · rename_i x' c e
      have ex := vw_str hx
      have ey := vw_str hy
      subst ex ey
      rw [xor_f] at q
      exact op_in_sign pins s σ H _ _ v u Q I rx ry ⟨c, z, by rw [str1 e], rfl, stay g q (.bl _)⟩
    · exact q.elim
  | _ => exact q.elim
theorem opr_notIn (hu : X.A.units + 65 < cLine) : OpR X (compareOp .NotIn) (rO2 X.K (pE X.K) (oIn true)) := by
  intro pins s σ H x y v u Q I rx ry h
  obtain ⟨G, a, b, g, hx, hy, q⟩ := h
  unfold oIn at q
  cases b with
  | dict ps =>
    obtain ⟨h1, h2, q⟩ := q
    obtain ⟨k, hk⟩ := Option.isSome_iff_exists.mp h1
    obtain ⟨p, r, rfl, dk, c⟩ := dk_of_vw I g hy hx hk h2
    cases ry
    refine dk_notIn (by omega) dk rx fun t => ⟨.bl _, H, I.tok _, rfl, ?_⟩
    rw [xor_t] at q
    rcases c with ⟨v', e, rfl, e2, _⟩ | ⟨rfl, e2⟩
    · rw [e2] at q; exact stay g q (.bl _)
    · rw [e2] at q; exact stay g q (.bl _)
  | tuple c ds =>
    obtain ⟨h1, h2, q⟩ := q
    obtain ⟨b, ys, rfl, _, sq, r2⟩ := vw_tup g hy
    have rx' := vw_rp g hx
    obtain ⟨ex, fx⟩ := flat_V rx' h1
    obtain ⟨ey, fy⟩ := flat_Vs r2 h2
    refine op_notIn_seq pins s σ H _ _ v u Q I rx ry ⟨b, ys, rfl, .inr sq, fx, fy, ?_⟩
    rw [xor_t] at q
    have : inV x ys = memD a ds := by subst ex ey; unfold inV memD; rw [List.any_map]; rfl
    rw [if_pos rfl, this]
    exact stay g q (.bl _)
  | list ds =>
    obtain ⟨b, ys, rfl, sq, r2⟩ := vw_list g hy
    dsimp only at q
    split at q
    · rename_i e
      rw [Bool.and_eq_true] at e
      have rx' := vw_rp g hx
      obtain ⟨ex, fx⟩ := flat_V rx' e.1
      obtain ⟨ey, fy⟩ := flat_Vs r2 e.2
      refine op_notIn_seq pins s σ H _ _ v u Q I rx ry ⟨b, ys, rfl, .inl (.inl sq), fx, fy, ?_⟩
      rw [xor_t] at q
      have : inV x ys = memD a ds := by subst ex ey; unfold inV memD; rw [List.any_map]; rfl
      rw [if_pos rfl, this]
      exact stay g q (.bl _)
    · rw [xor_t] at q
      exact op_notInD hu pins s σ H _ _ v u Q I rx ry ⟨toPy a, toPys ds, rp_dp (vw_rp g hx) (SeqAt.canLay_of_shaped q.1), rp_dp (vw_rp g hy) (SeqAt.canLay_of_shaped q.2.1), q.1, q.2.1, by rw [any_py]; exact stay g q.2.2 (.bl _)⟩
  | str z =>
    cases a <;> first | exact q.elim | skip
    dsimp only at q
    split at q
    · rename_i x' c e
      have ex := vw_str hx
      have ey := vw_str hy
      subst ex ey
      rw [xor_t] at q
      exact op_notIn_sign pins s σ H _ _ v u Q I rx ry ⟨c, z, by rw [str1 e], rfl, stay g q (.bl _)⟩
    · exact q.elim
  | _ => exact q.elim
/-! subscripts -/
def oIx : O2 := fun a b k => match a with
  | .list xs => match b with
    | .int i => match atI xs i with
      | some d => k d
      | none => False
    | _ => False
  | .tuple _ xs => match b with
    | .int i => match atI xs i with
      | some d => k d
      | none => False
    | _ => False
  | .scr ns => match b with
    | .int i => match atI ns i with
      | some n => k (.int n)
      | none => False
    | _ => False
  | .str z => match b with
    | .int i => z.length ≤ sizeLine ∧ match atI z.cps.toList i with
      | some c => k (.str ⟨#[c]⟩)
      | none => False
    | _ => False
  | .dict ps => (kOf b).isSome = true ∧ fits ps b = true ∧ match dLook ps b with
    | some d => k d
    | none => False
  | _ => False
theorem mo_ix : Mo2 oIx := fun a b k k' w h => by
  unfold oIx at h ⊢
  cases a with
  | list xs =>
    cases b <;> first | exact h.elim | skip
    dsimp only at h ⊢
    split at h
    · exact w _ h
    · exact h.elim
  | tuple c xs =>
    cases b <;> first | exact h.elim | skip
    dsimp only at h ⊢
    split at h
    · exact w _ h
    · exact h.elim
  | scr ns =>
    cases b <;> first | exact h.elim | skip
    dsimp only at h ⊢
    split at h
    · exact w _ h
    · exact h.elim
  | str z =>
    cases b <;> first | exact h.elim | skip
    dsimp only at h ⊢
    refine ⟨h.1, ?_⟩
    have h := h.2
    split at h
    · exact w _ h
    · exact h.elim
  | dict ps =>
    dsimp only at h ⊢
    refine ⟨h.1, h.2.1, ?_⟩
    have h := h.2.2
    split at h
    · exact w _ h
    · exact h.elim
  | _ => exact h.elim
theorem at_rps {K : PySem.W.Frag} {xs : List V} {ds : List D} {i : Int} {d : D} (r : RpAll K G xs ds) (h : atI ds i = some d) : ∃ v, atI xs i = some v ∧ Rp K G v d := by
  unfold atI at h ⊢
  rw [rps_len r]
  obtain ⟨j, hj, e⟩ := Option.bind_eq_some_iff.mp h
  obtain ⟨v, hv, rv⟩ := rps_get' r e
  exact ⟨v, Option.bind_eq_some_iff.mpr ⟨j, hj, hv⟩, rv⟩
theorem ixr_data (hu : X.A.units + 1 < cLine) : IxR X (rO2 X.K (pE X.K) oIx) := by
  intro value slice pins s σ H x y v u Q I rx ry h hs
  obtain ⟨G, a, b, g, hx, hy, q⟩ := h
  unfold oIx at q
  cases a with
  | list xs =>
    cases b <;> first | exact q.elim | skip
    dsimp only at q
    split at q
    · rename_i d e
      obtain ⟨p, ys, rfl, rd, ra⟩ := vw_list g hx
      have ey := vw_int hy
      subst ey
      obtain ⟨w, hw, rw'⟩ := at_rps ra e
      exact ix_list value slice pins s σ H _ _ v u Q I rx ry ⟨p, ys, _, w, rfl, rfl, .inl rd, hw, stay g q rw'⟩ hs
    · exact q.elim
  | tuple c xs =>
    cases b <;> first | exact q.elim | skip
    dsimp only at q
    split at q
    · rename_i d e
      obtain ⟨p, ys, rfl, _, sq, ra⟩ := vw_tup g hx
      have ey := vw_int hy
      subst ey
      obtain ⟨w, hw, rw'⟩ := at_rps ra e
      exact ix_tup value slice pins s σ H _ _ v u Q I rx ry ⟨p, ys, _, w, rfl, rfl, sq, hw, stay g q rw'⟩ hs
    · exact q.elim
  | scr ns =>
    cases b <;> first | exact q.elim | skip
    dsimp only at q
    split at q
    · rename_i n e
      obtain ⟨p, rfl, sq⟩ := vw_scr g hx
      have ey := vw_int hy
      subst ey
      refine ix_list value slice pins s σ H _ _ v u Q I rx ry ⟨p, ns.map V.int, _, .int n, rfl, rfl, sq, ?_, stay g q (.int _)⟩ hs
      unfold atI at e ⊢
      rw [List.length_map]
      obtain ⟨j, hj, e⟩ := Option.bind_eq_some_iff.mp e
      exact Option.bind_eq_some_iff.mpr ⟨j, hj, by rw [List.getElem?_map, e]; rfl⟩
    · exact q.elim
  | str z =>
    cases b <;> first | exact q.elim | skip
    dsimp only at q
    obtain ⟨hz, q⟩ := q
    split at q
    · rename_i d e
      have ex := vw_str hx
      have ey := vw_int hy
      subst ex ey
      exact ix_str value slice pins s σ H _ _ v u Q I rx ry ⟨z, _, _, rfl, rfl, hz, e, stay g q (.str _)⟩ hs
    · exact q.elim
  | dict ps =>
    obtain ⟨h1, h2, q⟩ := q
    obtain ⟨k, hk⟩ := Option.isSome_iff_exists.mp h1
    obtain ⟨p, r, rfl, dk, c⟩ := dk_of_vw I g hx hy hk h2
    cases rx
    rcases c with ⟨v', e, rfl, e2, re⟩ | ⟨rfl, e2⟩
    · rw [e2] at q
      obtain ⟨hT, _⟩ := dk.typeIs
      unfold subscriptTail
      refine wpAny_bind ?_
      rw [getitemInPython_of_ne hT.not_modules]
      refine wpAny_bind (wpAny_specialOf hT PySem.F.slot_dict_getitem.lookup ?_)
      have fin : wpAny (model X.prog X.w) X.A (subscripted slice false (.ref p) u) (fun r s₃ => wpAny (model X.prog X.w) X.A (letTemporaryGo value (.ref p) r >>= fun _ => pure r) (EP X pins σ Q) X.xe s₃) X.xe s := by
        rw [hs]
        exact wpAny_operating (dk_get hu dk ry fun w' t rw' => wpAny_bind (wpAny_letTemporaryGo (wpAny_pure ⟨v', H, I.tok _, rw', stay g q re⟩)))
      first
        | exact wpAny_pure (wpAny_bind fin)
        | exact wpAny_bind (wpAny_pure (wpAny_bind fin))
        | exact wpAny_bind fin
    · rw [e2] at q
      exact q.elim
  | _ => exact q.elim
end
end Dl

set_option Elab.async false
set_option linter.all false
set_option maxRecDepth 100000
set_option maxHeartbeats 4000000
namespace Dl
open PySem PySem.Spec PyProof.Rows L2 Br
section
variable {K : PySem.W.Frag} {X : Cx} {a b c : Expr} {ma mb mc : ME} {pos : Pos}
/-! ### the rules, by name -/
theorem se_add (hK : X.K = K) (ha : SE K (fE K) X a ma) (hb : SE K (fV K) X b mb) : SE K (fE K) X (.BinOp a .Add b pos) (mOp oAdd ma mb) := by subst hK; exact se_op opr_add (op2_of mo_add) embE ha hb
theorem se_sub (hK : X.K = K) (ha : SE K (fE K) X a ma) (hb : SE K (fV K) X b mb) : SE K (fE K) X (.BinOp a .Sub b pos) (mOp oSub ma mb) := by subst hK; exact se_op opr_sub (op2_of mo_sub) embE ha hb
theorem se_mul (hK : X.K = K) (ha : SE K (fE K) X a ma) (hb : SE K (fV K) X b mb) : SE K (fE K) X (.BinOp a .Mult b pos) (mOp oMul ma mb) := by subst hK; exact se_op opr_mul (op2_of mo_mul) embE ha hb
theorem se_mod (hK : X.K = K) (ha : SE K (fE K) X a ma) (hb : SE K (fV K) X b mb) : SE K (fE K) X (.BinOp a .Mod b pos) (mOp oMod ma mb) := by subst hK; exact se_op opr_mod (op2_of mo_mod) embE ha hb
theorem se_fdiv (hK : X.K = K) (ha : SE K (fE K) X a ma) (hb : SE K (fV K) X b mb) : SE K (fE K) X (.BinOp a .FloorDiv b pos) (mOp oFdiv ma mb) := by subst hK; exact se_op opr_fdiv (op2_of mo_fdiv) embE ha hb
theorem se_pow (hK : X.K = K) (ha : SE K (fE K) X a ma) (hb : SE K (fV K) X b mb) : SE K (fE K) X (.BinOp a .Pow b pos) (mOp oPow ma mb) := by subst hK; exact se_op opr_pow (op2_of mo_pow) embE ha hb
theorem se_neg (hK : X.K = K) (ha : SE K (fV K) X a ma) : SE K (fE K) X (.UnaryOp .USub a pos) (mUn oNeg ma) := by subst hK; exact se_un unr_neg (op1_of mo_neg) embE ha
/-- a comparison: its rule, for a test or a value -/
structure Cmp (K : PySem.W.Frag) (X : Cx) (op : CmpOp) (o : O2) : Prop where
  mo : Mo2 o
  opr : OpR X (compareOp op) (rO2 K (pE K) o)
theorem c_eq (hK : X.K = K) (hu : X.A.units + 64 < cLine) : Cmp K X .Eq oEq := by subst hK; exact ⟨mo_eq, opr_eq hu⟩
theorem c_ne (hK : X.K = K) (hu : X.A.units + 64 < cLine) : Cmp K X .NotEq oNe := by subst hK; exact ⟨mo_ne, opr_ne hu⟩
theorem c_lt (hK : X.K = K) : Cmp K X .Lt oLt := by subst hK; exact ⟨mo_cmp, opr_lt⟩
theorem c_le (hK : X.K = K) : Cmp K X .LtE oLe := by subst hK; exact ⟨mo_cmp, opr_le⟩
theorem c_gt (hK : X.K = K) : Cmp K X .Gt oGt := by subst hK; exact ⟨mo_cmp, opr_gt⟩
theorem c_ge (hK : X.K = K) : Cmp K X .GtE oGe := by subst hK; exact ⟨mo_cmp, opr_ge⟩
theorem c_is (hK : X.K = K) : Cmp K X .Is (oIsN false) := by subst hK; exact ⟨mo_isN, opr_isN⟩
theorem c_isNot (hK : X.K = K) : Cmp K X .IsNot (oIsN true) := by subst hK; exact ⟨mo_isN, opr_notN⟩
theorem c_in (hK : X.K = K) (hu : X.A.units + 65 < cLine) : Cmp K X .In (oIn false) := by subst hK; exact ⟨mo_in, opr_in hu⟩
theorem c_notIn (hK : X.K = K) (hu : X.A.units + 65 < cLine) : Cmp K X .NotIn (oIn true) := by subst hK; exact ⟨mo_in, opr_notIn hu⟩
theorem se_c {op : CmpOp} {o : O2} (h : Cmp K X op o) (ha : SE K (fE K) X a ma) (hb : SE K (fV K) X b mb) (hm : behindInMarks op b = false) : SE K (fE K) X (.Compare a [op] [b] pos) (mOp o ma mb) := se_cmp h.opr (op2_of h.mo) embE ha hb hm
theorem st_c {op : CmpOp} {o : O2} (h : Cmp K X op o) (ha : SE K (fE K) X a ma) (hb : SE K (fV K) X b mb) (hm : behindInMarks op b = false) : ST K X (.Compare a [op] [b] pos) (mTest (mOp o ma mb)) := st_cmp h.opr (op2_of h.mo) ha hb hm
/-- a < b < c -/
def mChain (o o' : O2) (ma mb mc : ME) : ME := fun ρ k => ma ρ fun da ρ1 => mb ρ1 fun db ρ2 => o da db fun d => match d with
  | .bool true => mc ρ2 fun dc ρ3 => o' db dc fun e => k e ρ3
  | .bool false => k (.bool false) ρ2
  | _ => False
theorem se_item (hK : X.K = K) (hu : X.A.units + 1 < cLine) (ha : SE K (fE K) X a ma) (hb : SE K (fV K) X b mb) (hs : PlainIx b) : SE K (fE K) X (.Subscript a b pos) (mOp oIx ma mb) := by subst hK; exact se_ix (ixr_data hu) (op2_of mo_ix) embE ha hb hs
theorem se_itemO {i : Nat} (hK : X.K = K) (hu : X.A.units + 1 < cLine) (ha : PE X a (tVar i)) (hb : SE K (fV K) X b mb) (hs : PlainIx b) : SE K (fE K) X (.Subscript a b pos) (mOpO oIx i mb) := by subst hK; exact se_ixO (ixr_data hu) (op2_of mo_ix) embE ha hb hs
/-- a constant of the module -/
theorem se_glob {x : Str} {v : V} {u : Value} {d : D} {p : Pos} (hg : Gl X x) (hm : X.mg x = some u) (r : RelV v u) (h : ∀ G, Rp K G v d) (hd : (x == ("__debug__" : Str)) = false := by decide) : SE K (fE K) X (.Name x p) (mC d) := se_const (pe_glob hg hm r hd) h
/-! ### d.get -/
def mGet2 (ma mb mc : ME) : ME := fun ρ k => ma ρ fun da ρ1 => match da with
  | .dict ps => mb ρ1 fun db ρ2 => mc ρ2 fun dc ρ3 => (kOf db).isSome = true ∧ fits ps db = true ∧ k ((dLook ps db).getD dc) ρ3
  | _ => False
def mGet1 (ma mb : ME) : ME := fun ρ k => ma ρ fun da ρ1 => match da with
  | .dict ps => mb ρ1 fun db ρ2 => (kOf db).isSome = true ∧ fits ps db = true ∧ k ((dLook ps db).getD .none) ρ2
  | _ => False
/-- of an owned one -/
def mGet2O (i : Nat) (mb mc : ME) : ME := fun ρ k => mOwn i ρ fun da _ => match da with
  | .dict _ => mb ρ fun db ρ2 => mc ρ2 fun dc ρ3 => mOwn i ρ3 fun da _ => match da with
    | .dict ps => (kOf db).isSome = true ∧ fits ps db = true ∧ k ((dLook ps db).getD dc) ρ3
    | _ => False
  | _ => False
theorem vw_isD {G H : Hp} {x : V} {ps : List (D × D)} (g : Same G H) (h : Vw K G H x (.dict ps)) : ∃ a, x = .ref a ∧ IsD H a := by
  obtain ⟨a, e, c⟩ := vw_dict g h
  rcases c with ⟨_, _, _, rd, _⟩ | ⟨_, _, _, rd, _⟩
  · exact ⟨a, e, .inl ⟨_, rd⟩⟩
  · exact ⟨a, e, .inr ⟨_, rd⟩⟩
/-- what d.get(y, z) asks of the values -/
def rGet (K : PySem.W.Frag) (x y z : V) (H : Hp) (Q : VK) : Prop := ∃ G ps db dc, Same G H ∧ Vw K G H x (.dict ps) ∧ Rp K G y db ∧ Rp K G z dc ∧ (kOf db).isSome = true ∧ fits ps db = true ∧ ∀ v, Rp K G v ((dLook ps db).getD dc) → Q v H
theorem get_run {pins : List (Addr × Obj)} {σ : L2.St} {H : Hp} {s : Shared} {Q : VK} {x y z : V} {u w : Value} {p : Addr} (hu : X.A.units + 1 < cLine) (I : Inv X pins σ H s) (h : rGet X.K x y z H Q) (ex : x = .ref p) (ry : RelV y u) (rz : RelV z w) :
    wpAny (model X.prog X.w) X.A (call (.builtin "dict.get") [.ref p, u, w]) (EP X pins σ Q) X.xe s := by
  subst ex
  obtain ⟨G, ps, db, dc, g, hx, hy, hz, h1, h2, q⟩ := h
  obtain ⟨k, hk⟩ := Option.isSome_iff_exists.mp h1
  obtain ⟨p', r, e, dk, c⟩ := dk_of_vw I g hx (.fro hy) hk h2
  cases e
  refine dk_get2 hu dk ry rz fun w' t rw' => ⟨r.getD z, H, I.tok _, rw', ?_⟩
  rcases c with ⟨v', e, rfl, e2, re⟩ | ⟨rfl, e2⟩
  · rw [e2] at q; exact q v' re
  · rw [e2] at q; exact q z hz
def tGet2 (K : PySem.W.Frag) (td ty tz : TE) : TE := fun σ H Q => td σ H fun x H1 => (∃ a, x = .ref a ∧ IsD H1 a) ∧ ty σ H1 fun y H2 => tz σ H2 fun z H3 => rGet K x y z H3 Q
theorem pe_getD {e f : Expr} {apos cpos : Pos} {td ty tz : TE} (hu : X.A.units + 1 < cLine) (ho : PE X a td) (he : PE X e ty) (hf : PE X f tz) (m : M2 X a "get" apos e f cpos) : PE X (.Call (.Attribute a "get" apos) [e, f] [] cpos) (tGet2 X.K td ty tz) := by
  constructor
  intro pins s σ H Q I h
  refine wpAny_Call_method m.base m.few m.line PySem.F.plainAttrs_dict PySem.F.slot_dict_get PySem.F.type_dict_get (thn (ho.run pins s σ H _ I h) fun u s1 hh => ?_)
  obtain ⟨x, H1, I1, rx, ⟨p, ex, dd⟩, q1⟩ := hh
  subst ex
  obtain rfl : u = Value.ref p := rx
  obtain ⟨t1, t2, _⟩ := isD_at I1 dd
  refine ⟨t1, t2, ?_⟩
  rw [m.trees]
  refine Calls.callWith_builtin rfl (Calls.evalArgs_plain (Calls.spliced_cons (thn (he.run pins s1 σ H1 _ I1 q1) fun iv s2 hh2 => ?_)))
  obtain ⟨y, H2, I2, ry, q2⟩ := hh2
  refine Calls.spliced_cons (thn (hf.run pins s2 σ H2 _ I2 q2) fun fv s3 hh3 => Calls.spliced_nil ?_)
  obtain ⟨z, H3, I3, rz, q3⟩ := hh3
  exact get_run hu I3 q3 rfl ry rz
theorem se_get2 {e f : Expr} {apos cpos : Pos} (hK : X.K = K) (hu : X.A.units + 1 < cLine) (ha : SE K (fE K) X a ma) (hb : SE K (fE K) X e mb) (hc : SE K (fE K) X f mc) (m : M2 X a "get" apos e f cpos) : SE K (fE K) X (.Call (.Attribute a "get" apos) [e, f] [] cpos) (mGet2 ma mb mc) := by
  subst hK
  refine ⟨fun ρ k k' w => ha.mono ρ _ _ fun da ρ1 q => ?_, pe_weak (pe_getD hu ha.pe hb.pe hc.pe m) fun σ H Q ⟨G, ρ, R, q⟩ => ⟨G, ρ, R, ha.mono ρ _ _ (fun da ρ1 q x G1 H1 R1 l1 rx => ?_) q⟩⟩
  · cases da <;> first | exact q.elim | exact hb.mono ρ1 _ _ (fun db ρ2 => hc.mono ρ2 _ _ fun dc ρ3 q => ⟨q.1, q.2.1, w _ _ q.2.2⟩) q
  · cases da <;> first | exact q.elim | skip
    refine ⟨vw_isD R1.gh (.fro rx), G1, ρ1, R1, hb.mono ρ1 _ _ (fun db ρ2 q y G2 H2 R2 l2 ry => ⟨G2, ρ2, R2, hc.mono ρ2 _ _ (fun dc ρ3 q z G3 H3 R3 l3 rz => ?_) q⟩) q⟩
    exact ⟨G3, _, db, dc, R3.gh, .fro (rp_same (l2.trans l3).st.gg rx), rp_same l3.st.gg ry, rz, q.1, q.2.1, fun v rv => q.2.2 v G3 H3 R3 ((l1.trans l2).trans l3) rv⟩
theorem se_get2O {i : Nat} {e f : Expr} {apos cpos : Pos} (hK : X.K = K) (hu : X.A.units + 1 < cLine) (ha : PE X a (tVar i)) (hb : SE K (fE K) X e mb) (hc : SE K (fE K) X f mc) (m : M2 X a "get" apos e f cpos) : SE K (fE K) X (.Call (.Attribute a "get" apos) [e, f] [] cpos) (mGet2O i mb mc) := by
  subst hK
  refine ⟨fun ρ k k' w => mo_own ρ _ _ fun da _ q => ?_, pe_weak (pe_getD hu ha hb.pe hc.pe m) fun σ H Q ⟨G, ρ, R, q⟩ => ?_⟩
  · cases da <;> first | exact q.elim | skip
    refine hb.mono ρ _ _ (fun db ρ2 => hc.mono ρ2 _ _ fun dc ρ3 q => mo_own ρ3 _ _ (fun da _ q => ?_) q) q
    cases da <;> first | exact q.elim | exact ⟨q.1, q.2.1, w _ _ q.2.2⟩
  · obtain ⟨x, da, hx, vx, q⟩ := own_there R q
    cases da <;> first | exact q.elim | skip
    refine ⟨x, hx, vw_isD R.gh vx, G, ρ, R, hb.mono ρ _ _ (fun db ρ2 q y G2 H2 R2 l2 ry => ⟨G2, ρ2, R2, hc.mono ρ2 _ _ (fun dc ρ3 q z G3 H3 R3 l3 rz => ?_) q⟩) q⟩
    obtain ⟨x', da, hx', vx', q⟩ := own_there R3 q
    rw [hx] at hx'
    cases hx'
    cases da <;> first | exact q.elim | skip
    exact ⟨G3, _, db, dc, R3.gh, vx', rp_same l3.st.gg ry, rz, q.1, q.2.1, fun v rv => q.2.2 v G3 H3 R3 (l2.trans l3) rv⟩
/-! ### calls of built-ins -/
variable {π : PF} {φ : Fl} {x : Str} {p : Pos}
theorem t_1 {r : List V → Hp → VK → Prop} {o : O1} (hr : ∀ y H Q, rO1 K π o y H Q → r [y] H Q) (mo : Mo1 o) (em : Emb K π φ) (ha : Mo ma) (σ : L2.St) (H : Hp) (Q : VK) (h : tE K φ (mUn o ma) σ H Q) : tCB r (tCons (tE K (fV K) ma) tNil) σ H Q := by
  obtain ⟨G, ρ, R, h⟩ := h
  refine ⟨G, ρ, R, ha ρ _ _ (fun da ρ1 q y G1 H1 R1 l1 ry => hr y H1 Q ⟨G1, da, R1.gh, ry, mo _ _ _ (fun d q v G2 H2 gh st pv => ?_) q⟩) h⟩
  exact q v G2 H2 (R1.pure st gh) (l1.trans (.pure st)) (em σ ρ ρ1 G H G1 H1 G2 H2 v d R1 l1 pv)
theorem se_b1 {id : String} {r : List V → Hp → VK → Prop} {o : O1} (hc : CallR X (.builtin id) r) (hr : ∀ y H Q, rO1 K π o y H Q → r [y] H Q) (mo : Mo1 o) (em : Emb K π φ) (hg : Gl X x) (hm : X.mg x = none) (hv : bootBuiltins x = some (.builtin id)) (ha : SE K (fV K) X a ma) (hs : starEach [a] X.env = [(false, eval a X.env)] := by rfl)
    (hn : x ≠ "__name__" := by decide) (hdb : (x == ("__debug__" : Str)) = false := by decide) (hpl : (backTo pos (starEach [] X.env)).any (·.1) = false := by rfl) : SE K φ X (.Call (.Name x p) [a] [] pos) (mUn o ma) :=
  ⟨mo_un mo ha.mono, pe_weak (pe_callB hc hg hm hv (pa_cons ha.pe pa_nil hs) hn hdb hs hpl) (t_1 hr mo em ha.mono)⟩
theorem se_t1 {T : String} {r : List V → Hp → VK → Prop} {o : O1} (hc : CallR X (.type T) r) (hr : ∀ y H Q, rO1 K π o y H Q → r [y] H Q) (mo : Mo1 o) (em : Emb K π φ) (hg : Gl X x) (hm : X.mg x = none) (hv : bootBuiltins x = some (.type T)) (ha : SE K (fV K) X a ma) (hs : starEach [a] X.env = [(false, eval a X.env)] := by rfl)
    (hn : x ≠ "__name__" := by decide) (hdb : (x == ("__debug__" : Str)) = false := by decide) (hpl : (backTo pos (starEach [] X.env)).any (·.1) = false := by rfl) : SE K φ X (.Call (.Name x p) [a] [] pos) (mUn o ma) :=
  ⟨mo_un mo ha.mono, pe_weak (pe_callTy hc hg hm hv (pa_cons ha.pe pa_nil hs) hn hdb hs hpl) (t_1 hr mo em ha.mono)⟩
theorem t_n {r : List V → Hp → VK → Prop} {o : On} {mr : MA} (hr : ∀ ys H Q, rOn K π o ys H Q → r ys H Q) (mo : Mon o) (em : Emb K π φ) (ha : Mo mr) (σ : L2.St) (H : Hp) (Q : VK) (h : tE K φ (mOn o mr) σ H Q) : tCB r (tA K mr) σ H Q := by
  obtain ⟨G, ρ, R, h⟩ := h
  refine ⟨G, ρ, R, ha ρ _ _ (fun ds ρ1 q ys G1 H1 R1 l1 ry => hr ys H1 Q ⟨G1, ds, R1.gh, ry, mo _ _ _ (fun d q v G2 H2 gh st pv => ?_) q⟩) h⟩
  exact q v G2 H2 (R1.pure st gh) (l1.trans (.pure st)) (em σ ρ ρ1 G H G1 H1 G2 H2 v d R1 l1 pv)
theorem se_bn {id : String} {r : List V → Hp → VK → Prop} {o : On} {mr : MA} {es : List Expr} (hc : CallR X (.builtin id) r) (hr : ∀ ys H Q, rOn K π o ys H Q → r ys H Q) (mo : Mon o) (em : Emb K π φ) (hg : Gl X x) (hm : X.mg x = none) (hv : bootBuiltins x = some (.builtin id)) (ha : SA K X (a :: es) mr)
    (hn : x ≠ "__name__" := by decide) (hdb : (x == ("__debug__" : Str)) = false := by decide) (he : starEach (a :: es) X.env = (false, eval a X.env) :: starEach es X.env := by rfl) (hpl : (backTo pos (starEach es X.env)).any (·.1) = false := by rfl) : SE K φ X (.Call (.Name x p) (a :: es) [] pos) (mOn o mr) :=
  ⟨fun ρ k k' w => ha.mono ρ _ _ fun ds ρ1 => mo _ _ _ fun d => w d ρ1, pe_weak (pe_callB hc hg hm hv ha.pa hn hdb he hpl) (t_n hr mo em ha.mono)⟩
end
end Dl

set_option Elab.async false
set_option linter.all false
set_option maxRecDepth 100000
set_option maxHeartbeats 4000000
namespace Dl
open PySem PySem.Spec PyProof.Rows L2 Br
/-! ### a def is worth what its body is worth -/
def Fof (np m n : Nat) (b : MS) : Fs := fun cs k => cs.length = np ∧ ∃ k0 : D → List Cell → Prop, (∀ d c, k0 d c → k d c) ∧ b { nx := fun ρ' => k0 .none (ρ'.take n), rt := fun d ρ' => k0 d (ρ'.take n) } (cs ++ List.replicate m .un)
theorem Fof.mo {np m n : Nat} {b : MS} : ∀ cs (k k' : D → List Cell → Prop), (∀ d cs', k d cs' → k' d cs') → Fof np m n b cs k → Fof np m n b cs k' := fun cs k k' w h => by
  obtain ⟨h1, k0, h2, h3⟩ := h
  exact ⟨h1, k0, fun d c z => w d c (h2 d c z), h3⟩
theorem Fof.mk {np m n : Nat} {b : MS} {cs : List Cell} {k : D → List Cell → Prop} (h : cs.length = np) (q : b { nx := fun ρ' => k .none (ρ'.take n), rt := fun d ρ' => k d (ρ'.take n) } (cs ++ List.replicate m .un)) : Fof np m n b cs k := ⟨h, k, fun _ _ z => z, q⟩
structure FnD (P : Program) (w : World) (K : PySem.W.Frag) (mg : Str → Option Value) (base : Heap) (k : Nat) (f : Addr) (fd : FuncData) (ps : List Str) (n : Nat) (F : Fs) : Prop where
  ok : FnG P w K mg base CX0 k f fd ps (spD K ps.length n F)
  mo : ∀ cs (k k' : D → List Cell → Prop), (∀ d cs', k d cs' → k' d cs') → F cs k → F cs k'
  ln : ∀ cs k, F cs k → cs.length = ps.length
  le : n ≤ ps.length
section
variable {P : Program} {w : World} {K : PySem.W.Frag} {mg : Str → Option Value} {base : Heap} {k : Nat} {f : Addr} {fd : FuncData} {ps : List Str}
theorem fn_of {x qual : Str} {st : Stmt} {N : List Str} {n np m : Nat} {b : MS} (Fu : Fun K x qual st f fd) (S : FnScope N ps (defScope st)) (hn : n ≤ ps.length) (hp : ps.length = np) (hm : N.length - ps.length = m)
    (body : ∀ (cdv : Value) (Ar : Around) (out : List PySem.Env) (s0 : Shared) (H : Hp) (E : XK), Bare Ar → Room k (Ar.deeper (envOfC qual (defScope st) s0.heap.objs.size f cdv)) →
      SB K n (cxOf CX0 P w K mg base N qual (defScope st) f cdv Ar out s0 H E).nox (defBody st) b) : FnD P w K mg base (k + 1) f fd ps n (Fof np m n b) := by
  subst hp hm
  refine ⟨fn_ok Fu S hn fun cdv Ar out s0 H E hG hr => ⟨b, body cdv Ar out s0 H E hG hr, fun cs k hl h => ?_⟩, Fof.mo, fun cs k h => h.1, hn⟩
  obtain ⟨_, k0, w, q⟩ := h
  exact (body cdv Ar out s0 H E hG hr).mono _ { nx := fun ρ' => k0 .none (ρ'.take n), rt := fun d ρ' => k0 d (ρ'.take n) } _ (fun ρ' => w _ _) (fun d ρ' => w _ _) (fun _ z => z) (fun _ z => z) q
end
section
variable {K : PySem.W.Frag} {X : Cx} {a : Expr} {es : List Expr} {mr : MR}
theorem se_callD {F : Fs} {n k j : Nat} {f : Addr} {fd : FuncData} {ps : List Str} {x : Str} {p pos : Pos} (Fn : FnD X.prog X.w K X.mg X.base j f fd ps n F) (hK : X.K = K) (hG : Bare X.A) (hr : Room k X.A) (hj : j ≤ k) (hg : Gl X x) (hm : X.mg x = some (.ref f)) (hk : PySem.W.keepIn K (.ref f) = true) (hb : Binds K fd ps []) (ha : SR K X (a :: es) mr)
    (hdb : (x == ("__debug__" : Str)) = false := by decide) (he : starEach (a :: es) X.env = (false, eval a X.env) :: starEach es X.env := by rfl) (hpl : (backTo pos (starEach es X.env)).any (·.1) = false := by rfl) : SE K (fE K) X (.Call (.Name x p) (a :: es) [] pos) (mCall F n mr) := by
  subst hK
  exact se_call Fn.ok Fn.mo Fn.ln Fn.le hG (hr.mono hj) hg hm hk hb ha hdb he hpl
theorem Room.u65 {k : Nat} {A : Around} (r : Room k A) : A.units + 65 < cLine := by have := r.un; omega
theorem Room.u1 {k : Nat} {A : Around} (r : Room k A) : A.units + 1 < cLine := by have := r.un; omega
/-! ### builtins -/
def oLen : O1 := fun a k => match a with
  | .str z => z.length ≤ sizeLine ∧ k (.int z.length)
  | .list ds => k (.int ds.length)
  | .tuple _ ds => k (.int ds.length)
  | .dict ps => k (.int ps.length)
  | .scr ns => k (.int ns.length)
  | _ => False
theorem mo_len : Mo1 oLen := fun a k k' w h => by cases a <;> first | exact h.elim | exact w _ h | exact ⟨h.1, w _ h.2⟩
theorem callr_len : CallR X (.builtin "len") (fun xs H Q => ∃ x, xs = [x] ∧ rO1 X.K (pE X.K) oLen x H Q) := by
  intro pins s σ H xs us Q I r h
  obtain ⟨x, rfl, G, d, g, hx, q⟩ := h
  cases d <;> first | exact q.elim | skip
  · have ex := vw_str hx
    subst ex
    exact call_len_str pins s σ H _ us Q I r ⟨_, rfl, q.1, stay g q.2 (.int _)⟩
  · obtain ⟨p, ys, rfl, rd, ra⟩ := vw_list g hx
    refine call_len_seq pins s σ H _ us Q I r ⟨p, ys, rfl, .inl (.inl rd), ?_⟩
    rw [rps_len ra]; exact stay g q (.int _)
  · obtain ⟨p, ys, rfl, _, sq, ra⟩ := vw_tup g hx
    refine call_len_seq pins s σ H _ us Q I r ⟨p, ys, rfl, .inr sq, ?_⟩
    rw [rps_len ra]; exact stay g q (.int _)
  · obtain ⟨p, rfl, c⟩ := vw_dict g hx
    obtain ⟨u, rfl, rx⟩ := vals1 r
    cases rx
    rcases c with ⟨ks, xs, ds, rd, hl, ra, rfl⟩ | ⟨ks, xs, ds, rd, hl, ra, rfl⟩
    · refine d_len I rd fun t s' I' => ⟨.int _, H, I', ⟨_, rfl⟩, ?_⟩
      have e := rps_len ra
      have e2 : (ks.zip xs).length = ((ks.map keyD).zip ds).length := by simp; omega
      rw [e2]; exact stay g q (.int _)
    · obtain ⟨z, hd, zs, rel, dd⟩ := dt_rd I.hok rd
      have hl2 := Paired.length rel
      have e := rps_len ra
      have e2 : zs.length = ((ks.map fun k => D.tuple .mad (k.map keyD)).zip ds).length := by rw [← hl2]; simp; omega
      refine call_len_dictH hd dd (by rw [← hl2]; rw [sizeLine_eq] at z; omega) ?_
      rw [e2]
      exact ⟨.int _, H, I.tok _, ⟨_, rfl⟩, stay g q (.int _)⟩
  · obtain ⟨p, rfl, sq⟩ := vw_scr g hx
    refine call_len_seq pins s σ H _ us Q I r ⟨p, _, rfl, .inl sq, ?_⟩
    rw [List.length_map]; exact stay g q (.int _)
theorem se_len {ma : ME} {p pos : Pos} (hK : X.K = K) (hg : Gl X "len") (hm : X.mg "len" = none) (ha : SE K (fV K) X a ma) (hs : starEach [a] X.env = [(false, eval a X.env)] := by rfl) (hpl : (backTo pos (starEach [] X.env)).any (·.1) = false := by rfl) :
    SE K (fE K) X (.Call (.Name "len" p) [a] [] pos) (mUn oLen ma) := by
  subst hK
  exact se_b1 callr_len (fun y H Q h => ⟨y, rfl, h⟩) mo_len embE hg hm PySem.boot_len ha hs (by decide) (by decide) hpl
def oMax : On := fun as k => match as with
  | [.int i, .int j] => k (.int (if j > i then j else i))
  | _ => False
def oMin : On := fun as k => match as with
  | [.int i, .int j] => k (.int (if j < i then j else i))
  | _ => False
theorem two_ints {P : Int → Int → Prop} {as : List D} (h : match (motive := List D → Prop) as with | [.int i, .int j] => P i j | _ => False) : ∃ i j, as = [.int i, .int j] ∧ P i j := by
  split at h
  · exact ⟨_, _, rfl, h⟩
  · exact h.elim
theorem mo_max : Mon oMax := fun as k k' w h => by
  obtain ⟨i, j, rfl, h⟩ := two_ints h
  exact w _ h
theorem mo_min : Mon oMin := fun as k k' w h => by
  obtain ⟨i, j, rfl, h⟩ := two_ints h
  exact w _ h
theorem rps2 {G : Hp} {xs : List V} {a b : D} (h : RpAll K G xs [a, b]) : ∃ x y, xs = [x, y] ∧ Rp K G x a ∧ Rp K G y b := by
  cases h with
  | cons r rs => cases rs with
    | cons r2 rs2 => cases rs2; exact ⟨_, _, rfl, r, r2⟩
theorem se_max {es : MA} {b : Expr} {p pos : Pos} (hK : X.K = K) (hc : X.calm = true) (hg : Gl X "max") (hm : X.mg "max" = none) (ha : SA K X [a, b] es) (he : starEach [a, b] X.env = (false, eval a X.env) :: starEach [b] X.env := by rfl) (hpl : (backTo pos (starEach [b] X.env)).any (·.1) = false := by rfl) :
    SE K (fE K) X (.Call (.Name "max" p) [a, b] [] pos) (mOn oMax es) := by
  refine se_bn (π := pE K) (call_max2 hc) (fun ys H Q h => ?_) mo_max embE hg hm (by decide +kernel) ha (by decide) (by decide) he hpl
  obtain ⟨G, as, g, r, q⟩ := h
  obtain ⟨i, j, rfl, q⟩ := two_ints q
  obtain ⟨x, y, rfl, r1, r2⟩ := rps2 r
  cases r1
  cases r2
  exact ⟨i, j, rfl, stay g q (.int _)⟩
theorem se_min {es : MA} {b : Expr} {p pos : Pos} (hK : X.K = K) (hc : X.calm = true) (hg : Gl X "min") (hm : X.mg "min" = none) (ha : SA K X [a, b] es) (he : starEach [a, b] X.env = (false, eval a X.env) :: starEach [b] X.env := by rfl) (hpl : (backTo pos (starEach [b] X.env)).any (·.1) = false := by rfl) :
    SE K (fE K) X (.Call (.Name "min" p) [a, b] [] pos) (mOn oMin es) := by
  refine se_bn (π := pE K) (call_min2 hc) (fun ys H Q h => ?_) mo_min embE hg hm (by decide +kernel) ha (by decide) (by decide) he hpl
  obtain ⟨G, as, g, r, q⟩ := h
  obtain ⟨i, j, rfl, q⟩ := two_ints q
  obtain ⟨x, y, rfl, r1, r2⟩ := rps2 r
  cases r1
  cases r2
  exact ⟨i, j, rfl, stay g q (.int _)⟩
def oInt : O1 := fun a k => match a with
  | .int i => k (.int i)
  | .bool b => k (.int (if b then 1 else 0))
  | _ => False
theorem mo_int : Mo1 oInt := fun a k k' w h => by cases a <;> first | exact h.elim | exact w _ h
theorem se_int_of {ma : ME} {p pos : Pos} (hg : Gl X "int") (hm : X.mg "int" = none) (ha : SE K (fV K) X a ma) (hs : starEach [a] X.env = [(false, eval a X.env)] := by rfl) (hpl : (backTo pos (starEach [] X.env)).any (·.1) = false := by rfl) :
    SE K (fE K) X (.Call (.Name "int" p) [a] [] pos) (mUn oInt ma) := by
  refine se_t1 (π := pE K) call_int1 (fun y H Q h => ?_) mo_int embE hg hm (by decide +kernel) ha hs (by decide) (by decide) hpl
  obtain ⟨G, d, g, hx, q⟩ := h
  cases d <;> first | exact q.elim | skip
  · have ex := vw_bl hx
    subst ex
    exact .inr ⟨_, rfl, stay g q (.int _)⟩
  · have ex := vw_int hx
    subst ex
    exact .inl ⟨_, rfl, stay g q (.int _)⟩
/-- list(x), tuple(x) of a list or tuple -/
def oTupOf : O1 := fun a k => match a with
  | .list ds => k (.tuple .frz ds)
  | .tuple c ds => k (.tuple c ds)
  | _ => False
theorem mo_tupOf : Mo1 oTupOf := fun a k k' w h => by cases a <;> first | exact h.elim | exact w _ h
def oLstOf : O1 := fun a k => match a with
  | .list ds => k (.list ds)
  | .tuple _ ds => k (.list ds)
  | _ => False
theorem mo_lstOf : Mo1 oLstOf := fun a k k' w h => by cases a <;> first | exact h.elim | exact w _ h
/-- tuple(x), the new one known as it lies -/
theorem call_tupleZ : CallR X (.type "tuple") (fun xs H Q => ∃ p ys, xs = [.ref p] ∧ ((SqL X.K H p ys ∧ ∀ l o, H l = none → o.dict = none → Q (.ref l) (upd H l (.frz o (.tup ys)))) ∨ (SqT X.K H p ys ∧ Q (.ref p) H))) := by
  intro pins s σ H xs us Q I r h
  obtain ⟨p, ys, rfl, h⟩ := h
  obtain ⟨u, rfl, rx⟩ := vals1 r
  cases rx
  rcases h with ⟨hq, q⟩ | ⟨hq, q⟩
  · obtain ⟨its, r', pl, hz⟩ := I.list hq
    have hlen := r'.length
    refine call_tuple_list pl.isList (fun h' kp => ?_) (by simp only [List.size_toArray] <;> omega)
    have J : Inv X pins σ H { s with heap := h' } := I.kept (t' := s.toks) kp
    refine ⟨.ref h'.objs.size, upd H h'.objs.size (.frz { cls := .type "tuple", data := .seq its.toArray } (.tup ys)), J.laid (t' := s.toks) (fun b o e => Heap.get?_push_of_some _ e) (Nat.le_refl _) ⟨Heap.get?_push_size _ rfl, hz, its, r', IsTup.new _ _⟩, rfl, q _ _ (J.hok.fresh (Nat.le_refl _)) rfl⟩
  · obtain ⟨its, r', pl, hz⟩ := I.tuple hq
    exact call_tuple_same pl ⟨.ref p, H, I, rfl, q⟩
/-- (a, b, ..), known as it lies -/
def mTupZ (m : MA) : ME := fun ρ k => m ρ fun ds ρ1 => ds.length ≤ sizeLine ∧ k (.tuple .frz ds) ρ1
def tTupZ (t : TA) : TE := fun σ H Q => t σ H fun xs H1 => xs.length ≤ sizeLine ∧ ∀ p o, H1 p = none → o.dict = none → Q (.ref p) (upd H1 p (.frz o (.tup xs)))
theorem pe_tupZ {x1} {pos : Pos} {t : TA} (h : PA X es t) : PE X (.Tuple es x1 pos) (tTupZ t) := by
  constructor
  intro pins s σ H Q I hq
  refine wpAny_Tuple_spliced (thn (h.run pos pins s σ H _ I hq) fun us s1 hh => ?_)
  obtain ⟨xs, H1, I1, r, z, q⟩ := hh
  refine ⟨by rw [← r.length]; exact z, .ref s1.heap.objs.size, upd H1 s1.heap.objs.size (.frz { cls := .type "tuple", data := .seq us.toArray } (.tup xs)), I1.laid (t' := s1.toks) (fun b u e => Heap.get?_push_of_some _ e) (Nat.le_refl _) ?_, rfl, q _ _ (I1.hok.fresh (Nat.le_refl _)) rfl⟩
  exact ⟨Heap.get?_push_size _ rfl, z, us, r, ⟨_, Heap.get?_push_size _ rfl, rfl, _, rfl⟩⟩
theorem se_tupZ {x1} {pos : Pos} {mr : MA} (h : SA K X es mr) : SE K (fE K) X (.Tuple es x1 pos) (mTupZ mr) := by
  refine ⟨fun ρ k k' w => h.mono ρ _ _ fun ds ρ1 q => ⟨q.1, w _ _ q.2⟩, pe_weak (pe_tupZ h.pa) fun σ H Q ⟨G, ρ, R, q⟩ => ⟨G, ρ, R, h.mono ρ _ _ (fun ds ρ1 q vs G1 H1 R1 l rs => ⟨by rw [rps_len rs]; exact q.1, fun p o np nd => ?_⟩) q⟩⟩
  have st := stp_newG (o := .frz o (.tup vs)) R1.gh np
  exact q.2 _ _ _ (R1.pure st (same_new2 R1.gh np)) (l.trans (.pure st)) (.tupZ upd_same nd (rps_same st.gg rs))
theorem se_tuple_of {ma : ME} {p pos : Pos} (hK : X.K = K) (hg : Gl X "tuple") (hm : X.mg "tuple" = none) (ha : SE K (fV K) X a ma) (hs : starEach [a] X.env = [(false, eval a X.env)] := by rfl) (hpl : (backTo pos (starEach [] X.env)).any (·.1) = false := by rfl) :
    SE K (fE K) X (.Call (.Name "tuple" p) [a] [] pos) (mUn oTupOf ma) := by
  subst hK
  refine se_t1 (π := pE X.K) call_tupleZ (fun y H Q h => ?_) mo_tupOf embE hg hm (by decide +kernel) ha hs (by decide) (by decide) hpl
  obtain ⟨G, d, g, hx, q⟩ := h
  cases d <;> first | exact q.elim | skip
  · obtain ⟨l, ys, rfl, rd, ra⟩ := vw_list g hx
    exact ⟨l, ys, rfl, .inl ⟨.inl rd, fun p o np nd => newG g q np (.tupZ upd_same nd (rps_same (same_upd (g.free np)) ra))⟩⟩
  · obtain ⟨l, ys, rfl, s1, sq, ra⟩ := vw_tup g hx
    exact ⟨l, ys, rfl, .inr ⟨sq, stay g q s1⟩⟩
/-- a new list, its maker's own -/
theorem newF {G H : Hp} {Q : VK} {d : D} {p : Addr} {o : HO} (g : Same G H) (q : Then K (pF K) G H Q d) (np : H p = none) (r : ObR K G o d) : Q (.ref p) (upd H p o) :=
  q _ _ _ (same_new1 g np) (stp_new np) ⟨p, o, rfl, np, upd_same, g.free np, r⟩
theorem se_list_of {ma : ME} {p pos : Pos} (hK : X.K = K) (hg : Gl X "list") (hm : X.mg "list" = none) (ha : SE K (fV K) X a ma) (hs : starEach [a] X.env = [(false, eval a X.env)] := by rfl) (hpl : (backTo pos (starEach [] X.env)).any (·.1) = false := by rfl) :
    SE K (fF K) X (.Call (.Name "list" p) [a] [] pos) (mUn oLstOf ma) := by
  subst hK
  refine se_t1 (π := pF X.K) call_list_of (fun y H Q h => ?_) mo_lstOf embF hg hm (by decide +kernel) ha hs (by decide) (by decide) hpl
  obtain ⟨G, d, g, hx, q⟩ := h
  cases d <;> first | exact q.elim | skip
  · obtain ⟨l, ys, rfl, rd, ra⟩ := vw_list g hx
    exact ⟨l, ys, rfl, .inl (.inl rd), fun p np => newF g q np (.lst ra)⟩
  · obtain ⟨l, ys, rfl, s1, sq, ra⟩ := vw_tup g hx
    exact ⟨l, ys, rfl, .inr sq, fun p np => newF g q np (.lst ra)⟩
/-- for i in range(n), range(m, n) -/
def intsD (lo : Int) (n : Nat) : List D := (List.range n).map fun i => .int (lo + (i : Nat))
def mRng1 (m : MA) : MI := fun ρ k => m ρ fun ds ρ1 => match ds with
  | [.int j] => -(2 ^ 62) ≤ j ∧ j < 2 ^ 62 ∧ k (intsD 0 j.toNat) ρ1
  | _ => False
def mRng2 (m : MA) : MI := fun ρ k => m ρ fun ds ρ1 => match ds with
  | [.int i, .int j] => (-(2 ^ 62) ≤ i ∧ i < 2 ^ 62 ∧ -(2 ^ 62) ≤ j ∧ j < 2 ^ 62) ∧ k (intsD i (j - i).toNat) ρ1
  | _ => False
theorem wk_rng {G : Hp} {lo : Int} {n : Nat} : Wk K (Itr lo n) G (intsD lo n) := by
  intro G' H' g gh
  have W := walk_range (lo := lo) (n := n)
  have ln : (intsD lo n).length = n := by unfold intsD; rw [List.length_map, List.length_range]
  refine ⟨fun i hi => W.goes i H' (by omega) trivial, by rw [ln]; exact W.stops H' trivial, fun i x H3 hi y => ?_⟩
  obtain ⟨rfl, rfl⟩ := W.yields i H' x H3 (by omega) trivial y
  refine ⟨G', .int (lo + i), gh, .refl, ?_, .int _⟩
  unfold intsD
  rw [List.getElem?_map, List.getElem?_range (by omega)]
  rfl
theorem si_range1 {tg : Expr} {m : MA} {p pos : Pos} (hg : Gl X "range") (hm : X.mg "range" = none) (ha : SA K X [a] m) (hs : starEach [a] X.env = [(false, eval a X.env)] := by rfl) : SI K X tg (.Call (.Name "range" p) [a] [] pos) (mRng1 m) := by
  refine ⟨fun ρ k k' w => ha.mono ρ _ _ fun ds ρ1 h => ?_, pi_weak (pi_range1 hg hm ha.pa hs) fun σ H R ⟨G, ρ, Rl, q⟩ => ⟨G, ρ, Rl, ha.mono ρ _ _ (fun ds ρ1 h vs G1 H1 R1 l r => ?_) q⟩⟩
  · split at h
    · exact ⟨h.1, h.2.1, w _ _ h.2.2⟩
    · exact h.elim
  · split at h
    · cases r with
      | cons r rs =>
        cases rs
        cases r
        exact ⟨_, rfl, h.1, h.2.1, h.2.2 _ G1 H1 R1 l wk_rng⟩
    · exact h.elim
theorem si_range2 {tg b : Expr} {m : MA} {p pos : Pos} (hg : Gl X "range") (hm : X.mg "range" = none) (ha : SA K X [a, b] m) (hs : starEach [a, b] X.env = [(false, eval a X.env), (false, eval b X.env)] := by rfl) (hs2 : starEach [b] X.env = [(false, eval b X.env)] := by rfl) : SI K X tg (.Call (.Name "range" p) [a, b] [] pos) (mRng2 m) := by
  refine ⟨fun ρ k k' w => ha.mono ρ _ _ fun ds ρ1 h => ?_, pi_weak (pi_range2 hg hm ha.pa hs hs2) fun σ H R ⟨G, ρ, Rl, q⟩ => ⟨G, ρ, Rl, ha.mono ρ _ _ (fun ds ρ1 h vs G1 H1 R1 l r => ?_) q⟩⟩
  · split at h
    · exact ⟨h.1, w _ _ h.2⟩
    · exact h.elim
  · split at h
    · obtain ⟨x, y, rfl, r1, r2⟩ := rps2 r
      cases r1
      cases r2
      exact ⟨_, _, rfl, h.1, h.2 _ G1 H1 R1 l wk_rng⟩
    · exact h.elim
end
end Dl

set_option Elab.async false
set_option linter.all false
set_option maxRecDepth 100000
set_option maxHeartbeats 4000000
namespace Dl
open PySem PySem.Spec PyProof.Rows L2 Br
/-! ### an owned list or dict is changed -/
def putKs (ps : List (D × D)) (k : Key ⊕ List Key) (key v : D) : List (D × D) :=
  if (ps.any fun p => decide (kOf p.1 = some k)) = true then ps.map (fun p => if kOf p.1 = some k then (p.1, v) else p) else ps ++ [(key, v)]
/-- a key that may be stored: a text, an int, a tuple that was made -/
def made : D → Bool
  | .tuple c _ => decide (c = .mad)
  | _ => true
def oPut (d i v : D) (k : D → Prop) : Prop := match d with
  | .list xs => match i with
    | .int j => match ixN xs.length j with
      | some n => k (.list (xs.set n v))
      | none => False
    | _ => False
  | .dict ps => match kOf i with
    | some q => made i = true ∧ fits ps i = true ∧ ps.length < sizeLine ∧ k (.dict (putKs ps q i v))
    | none => False
  | _ => False
theorem mo_put {d i v : D} {k k' : D → Prop} (w : ∀ d, k d → k' d) (h : oPut d i v k) : oPut d i v k' := by
  unfold oPut at h ⊢
  cases d with
  | list xs =>
    cases i <;> first | exact h.elim | skip
    dsimp only at h ⊢
    split at h
    · exact w _ h
    · exact h.elim
  | dict ps =>
    dsimp only at h ⊢
    split at h
    · exact ⟨h.1, h.2.1, h.2.2.1, w _ h.2.2.2⟩
    · exact h.elim
  | _ => exact h.elim
section
variable {K : PySem.W.Frag} {G H : Hp}
theorem any_K {k : Key} : ∀ {ks : List Key} {xs : List V} {ds : List D}, ks.length = xs.length → RpAll K G xs ds → ((ks.zip xs).any fun kv => decide (kv.1 = k)) = (((ks.map keyD).zip ds).any fun p => decide (kOf p.1 = some (.inl k)))
  | [], _, _, _, _ => rfl
  | q :: ks, _, _, hl, .nil => by cases hl
  | q :: ks, _ :: xs, _ :: ds, hl, .cons r rs => by
    have ih := any_K (k := k) (ks := ks) (Nat.succ.inj hl) rs
    show (decide (q = k) || (ks.zip xs).any _) = (decide (kOf (keyD q) = some (.inl k)) || _)
    rw [ih, kOf_D]
    congr 1
    by_cases e : q = k
    · rw [decide_eq_true e, decide_eq_true (by rw [e])]
    · rw [decide_eq_false e, decide_eq_false (fun z => e (Sum.inl.inj (Option.some.inj z)))]
theorem any_T {k : List Key} : ∀ {ks : List (List Key)} {xs : List V} {ds : List D}, ks.length = xs.length → RpAll K G xs ds → ((ks.zip xs).any fun kv => decide (kv.1 = k)) = (((ks.map fun k => D.tuple .mad (k.map keyD)).zip ds).any fun p => decide (kOf p.1 = some (.inr k)))
  | [], _, _, _, _ => rfl
  | q :: ks, _, _, hl, .nil => by cases hl
  | q :: ks, _ :: xs, _ :: ds, hl, .cons r rs => by
    have ih := any_T (k := k) (ks := ks) (Nat.succ.inj hl) rs
    show (decide (q = k) || (ks.zip xs).any _) = (decide (kOf (.tuple .mad (q.map keyD)) = some (.inr k)) || _)
    rw [ih, kOf_T]
    congr 1
    by_cases e : q = k
    · rw [decide_eq_true e, decide_eq_true (by rw [e])]
    · rw [decide_eq_false e, decide_eq_false (fun z => e (Sum.inr.inj (Option.some.inj z)))]
theorem map_K {k : Key} {v : V} {d : D} (rv : Rp K G v d) : ∀ {ks : List Key} {xs : List V} {ds : List D}, ks.length = xs.length → RpAll K G xs ds →
    ∃ (ys : List V) (es : List D), (ks.zip xs).map (fun kv => if kv.1 = k then (kv.1, v) else kv) = ks.zip ys ∧ ks.length = ys.length ∧ RpAll K G ys es ∧ ((ks.map keyD).zip ds).map (fun p => if kOf p.1 = some (.inl k) then (p.1, d) else p) = (ks.map keyD).zip es
  | [], xs, ds, hl, r => by
    cases xs with
    | nil => exact ⟨[], [], rfl, rfl, .nil, rfl⟩
    | cons _ _ => cases hl
  | q :: ks, _, _, hl, .nil => by cases hl
  | q :: ks, x :: xs, e :: ds, hl, .cons r rs => by
    obtain ⟨ys, es, h1, h2, h3, h4⟩ := map_K (k := k) rv (ks := ks) (Nat.succ.inj hl) rs
    by_cases z : q = k
    · refine ⟨v :: ys, d :: es, ?_, congrArg (· + 1) h2, .cons rv h3, ?_⟩
      · show (if q = k then (q, v) else (q, x)) :: _ = (q, v) :: ks.zip ys
        rw [if_pos z, ← h1]; rfl
      · show (if kOf (keyD q) = some (.inl k) then (keyD q, d) else (keyD q, e)) :: _ = (keyD q, d) :: (ks.map keyD).zip es
        rw [kOf_D, if_pos (by rw [z]), ← h4]; rfl
    · refine ⟨x :: ys, e :: es, ?_, congrArg (· + 1) h2, .cons r h3, ?_⟩
      · show (if q = k then (q, v) else (q, x)) :: _ = (q, x) :: ks.zip ys
        rw [if_neg z, ← h1]; rfl
      · show (if kOf (keyD q) = some (.inl k) then (keyD q, d) else (keyD q, e)) :: _ = (keyD q, e) :: (ks.map keyD).zip es
        rw [kOf_D, if_neg (fun y => z (Sum.inl.inj (Option.some.inj y))), ← h4]; rfl
theorem map_T {k : List Key} {v : V} {d : D} (rv : Rp K G v d) : ∀ {ks : List (List Key)} {xs : List V} {ds : List D}, ks.length = xs.length → RpAll K G xs ds →
    ∃ (ys : List V) (es : List D), (ks.zip xs).map (fun kv => if kv.1 = k then (kv.1, v) else kv) = ks.zip ys ∧ ks.length = ys.length ∧ RpAll K G ys es ∧ ((ks.map fun k => D.tuple .mad (k.map keyD)).zip ds).map (fun p => if kOf p.1 = some (.inr k) then (p.1, d) else p) = (ks.map fun k => D.tuple .mad (k.map keyD)).zip es
  | [], xs, ds, hl, r => by
    cases xs with
    | nil => exact ⟨[], [], rfl, rfl, .nil, rfl⟩
    | cons _ _ => cases hl
  | q :: ks, _, _, hl, .nil => by cases hl
  | q :: ks, x :: xs, e :: ds, hl, .cons r rs => by
    obtain ⟨ys, es, h1, h2, h3, h4⟩ := map_T (k := k) rv (ks := ks) (Nat.succ.inj hl) rs
    by_cases z : q = k
    · refine ⟨v :: ys, d :: es, ?_, congrArg (· + 1) h2, .cons rv h3, ?_⟩
      · show (if q = k then (q, v) else (q, x)) :: _ = (q, v) :: ks.zip ys
        rw [if_pos z, ← h1]; rfl
      · show (if kOf (.tuple .mad (q.map keyD)) = some (.inr k) then (D.tuple .mad (q.map keyD), d) else (D.tuple .mad (q.map keyD), e)) :: _ = (D.tuple .mad (q.map keyD), d) :: (ks.map fun k => D.tuple .mad (k.map keyD)).zip es
        rw [kOf_T, if_pos (by rw [z]), ← h4]; rfl
    · refine ⟨x :: ys, e :: es, ?_, congrArg (· + 1) h2, .cons r h3, ?_⟩
      · show (if q = k then (q, v) else (q, x)) :: _ = (q, x) :: ks.zip ys
        rw [if_neg z, ← h1]; rfl
      · show (if kOf (.tuple .mad (q.map keyD)) = some (.inr k) then (D.tuple .mad (q.map keyD), d) else (D.tuple .mad (q.map keyD), e)) :: _ = (D.tuple .mad (q.map keyD), e) :: (ks.map fun k => D.tuple .mad (k.map keyD)).zip es
        rw [kOf_T, if_neg (fun y => z (Sum.inr.inj (Option.some.inj y))), ← h4]; rfl
theorem zip_snoc {α β : Type} {as : List α} {bs : List β} {a : α} {b : β} (h : as.length = bs.length) : (as ++ [a]).zip (bs ++ [b]) = as.zip bs ++ [(a, b)] := by
  rw [List.zip_append h]; rfl
/-- a dict behind d[k] = v -/
theorem put_K {k : Key} {v : V} {d : D} {ks : List Key} {xs : List V} {ds : List D} (hl : ks.length = xs.length) (ra : RpAll K G xs ds) (rv : Rp K G v d) : ObR K G (.dK (putK (ks.zip xs) k v)) (.dict (putKs ((ks.map keyD).zip ds) (.inl k) (keyD k) d)) := by
  unfold putK putKs
  rw [any_K hl ra]
  split
  · obtain ⟨ys, es, h1, h2, h3, h4⟩ := map_K (k := k) rv hl ra
    rw [h1, h4]
    exact .dK h2 h3
  · have e := rps_len ra
    rw [← zip_snoc hl, ← zip_snoc (by simp; omega)]
    have := ObR.dK (K := K) (G := G) (ks := ks ++ [k]) (xs := xs ++ [v]) (ds := ds ++ [d]) (by simp; omega) (rps_app ra (.cons rv .nil))
    rw [List.map_append] at this
    exact this
theorem put_T {k : List Key} {v : V} {d : D} {ks : List (List Key)} {xs : List V} {ds : List D} (hl : ks.length = xs.length) (ra : RpAll K G xs ds) (rv : Rp K G v d) : ObR K G (.dT (putK (ks.zip xs) k v)) (.dict (putKs ((ks.map fun k => D.tuple .mad (k.map keyD)).zip ds) (.inr k) (.tuple .mad (k.map keyD)) d)) := by
  unfold putK putKs
  rw [any_T hl ra]
  split
  · obtain ⟨ys, es, h1, h2, h3, h4⟩ := map_T (k := k) rv hl ra
    rw [h1, h4]
    exact .dT h2 h3
  · have e := rps_len ra
    rw [← zip_snoc hl, ← zip_snoc (by simp; omega)]
    have := ObR.dT (K := K) (G := G) (ks := ks ++ [k]) (xs := xs ++ [v]) (ds := ds ++ [d]) (by simp; omega) (rps_app ra (.cons rv .nil))
    rw [List.map_append] at this
    exact this
end
section
variable {X : Cx} {pins : List (Addr × Obj)} {σ : L2.St} {G H : Hp} {s : Shared}
/-- d[tuple] = v where the dict has tuples for keys, or nothing -/
theorem setT {a b : Addr} {kvs : List (List Key × V)} {xs : List (List Key × Addr × Value)} {k : List Key} {v : V} {r : Value} {A : Around} {E : Value → Shared → Prop} {Q : Unit → Shared → Prop} (hu : A.units + 1 < cLine) (I : Inv X pins σ H s) (mu : Mut (H a)) (hd : (a == sysModules) = false) (rel : KT H kvs xs) (dd : s.heap.DictOfH (tupleKind (mixKind X.prog X.w)) a xs)
    (hz : kvs.length < sizeLine) (eb : H b = some (.tup (k.map kV))) (rv : RelV v r) (h : ∀ s', Inv X pins σ (upd H a (.dT (putK kvs k v))) s' → Q () s') : wpAny (model X.prog X.w) A (setItem (.ref a) (.ref b) r) Q E s := by
  have lx := Paired.length rel
  have lp := length_putK kvs k v
  refine wpAny_setItem_heap (hsz := by omega) (tupleKind_room_in1 hu) (key_of I.hok eb) dd fun h' dd' hs => h _ ?_
  obtain ⟨q, es, ep, hq, h2, h3, h4, _, h5⟩ := dd'
  refine d_write I mu hs ⟨q, hq⟩ ⟨by omega, hd, _, (rel.put k eb rv).keeps fun c ys ec => ?_, q, es, ep, hq, h2, h3, h4, h5⟩
  rw [upd_ne (fun z => by subst z; rw [ec] at mu; exact mu)]
  exact ec
theorem setK {a : Addr} {kvs : List (Key × V)} {vs : List (Key × Value)} {k : Key} {v : V} {u r : Value} {A : Around} {E : Value → Shared → Prop} {Q : Unit → Shared → Prop} (I : Inv X pins σ H s) (mu : Mut (H a)) (hd : (a == sysModules) = false) (rel : KV kvs vs) (dd : s.heap.DictOf (mixKind X.prog X.w) a vs)
    (hz : kvs.length < sizeLine) (ru : RelV (kV k) u) (rv : RelV v r) (h : ∀ s', Inv X pins σ (upd H a (.dK (putK kvs k v))) s' → Q () s') : wpAny (model X.prog X.w) A (setItem (.ref a) u r) Q E s := by
  have lx := rel.length
  have lp := length_putK kvs k v
  refine wpAny_setItem_pairs (hsz := by omega) (kV_is ru) dd fun h' dd' hs => h _ ?_
  have he : ∃ q, h'.get? a = some q := let ⟨q, _, _, hq, _⟩ := dd'; ⟨q, hq⟩
  exact d_write I mu hs he (dk_new (by omega) hd (rel.put k rv) dd')
/-- o[i] = v of an owned o -/
def rPut (K : PySem.W.Frag) : TSet := fun o i v H Q => ∃ G p ob d di dv, o = .ref p ∧ Same G H ∧ H p = some ob ∧ G p = none ∧ ObR K G ob d ∧ Rp K G i di ∧ Rp K G v dv ∧ oPut d di dv fun d' => ∀ ob', ObR K G ob' d' → Q (upd H p ob')
theorem pset_put (hu : X.A.units + 1 < cLine) : PSet X (rPut X.K) := by
  intro pins s σ H o i v ov iv u Q I ro ri rv h
  obtain ⟨G, p, ob, d, di, dv, rfl, g, hp, gp, ro', rdi, rdv, q⟩ := h
  cases ro
  unfold oPut at q
  cases ro' with
  | lst ra =>
    cases di <;> first | exact q.elim | skip
    dsimp only at q
    split at q
    · rename_i n e
      cases rdi
      have ln := rps_len ra
      refine set_list pins s σ H (.ref p) _ v _ iv u Q I (show RelV (.ref p) (.ref p) from rfl) ri rv ⟨p, _, _, n, rfl, rfl, hp, by rw [ln]; exact e, q _ (.lst ?_)⟩
      have : ∀ {xs : List V} {ds : List D} (n : Nat), RpAll X.K G xs ds → RpAll X.K G (xs.set n v) (ds.set n dv) := by
        intro xs
        induction xs with
        | nil => intro ds n r; cases r; exact .nil
        | cons x xs ih =>
          intro ds n r
          cases r with
          | cons r1 r2 =>
            cases n with
            | zero => exact .cons rdv r2
            | succ n => exact .cons r1 (ih n r2)
      exact this n ra
    · exact q.elim
  | @dK ks xs ds hl ra =>
    dsimp only at q
    split at q
    · rename_i kk e
      obtain ⟨hm, hf, hz, q⟩ := q
      have le := rps_len ra
      rcases kk with k | k
      · have ed := kOf_inl e
        subst ed
        have ey := key_val (H := H) (.fro rdi)
        subst ey
        obtain ⟨_, hd, vs, rel, dd⟩ := dk_of I.hok hp
        exact setK I (by rw [hp]; trivial) hd rel dd (by simp at hz ⊢; omega) ri rv fun s' I' => ⟨_, I', q _ (put_K hl ra rdv)⟩
      · obtain ⟨c, ed⟩ := kOf_inr e
        subst ed
        have hc : c = .mad := of_decide_eq_true hm
        subst hc
        obtain ⟨b, ys, rfl, _, ry, tr⟩ := rp_tup rdi
        have ey := key_vals ry
        subst ey
        have e0 : ks = [] := by
          cases ks with
          | nil => rfl
          | cons q0 ks =>
            cases ra with
            | nil => cases hl
            | cons _ _ =>
              have := List.all_eq_true.mp hf _ List.mem_cons_self
              cases q0 <;> cases this
        subst e0
        have x0 : xs = [] := List.eq_nil_of_length_eq_zero hl.symm
        subst x0
        cases ra
        obtain ⟨hd, dd⟩ := rd0_KT I.hok (.inl hp)
        cases ri
        exact setT hu I (by rw [hp]; trivial) hd .nil dd (by decide) (g _ _ (tr rfl)) rv fun s' I' => ⟨_, I', q _ (put_T (ks := []) (xs := []) (ds := []) rfl .nil rdv)⟩
    · exact q.elim
  | @dT ks xs ds hl ra =>
    dsimp only at q
    split at q
    · rename_i kk e
      obtain ⟨hm, hf, hz, q⟩ := q
      have le := rps_len ra
      rcases kk with k | k
      · have ed := kOf_inl e
        subst ed
        have ey := key_val (H := H) (.fro rdi)
        subst ey
        have e0 : ks = [] := by
          cases ks with
          | nil => rfl
          | cons q0 ks =>
            cases ra with
            | nil => cases hl
            | cons _ _ =>
              have := List.all_eq_true.mp hf _ List.mem_cons_self
              cases k <;> cases this
        subst e0
        have x0 : xs = [] := List.eq_nil_of_length_eq_zero hl.symm
        subst x0
        cases ra
        obtain ⟨hd, dd⟩ := rd0_TK I.hok (.inl hp)
        exact setK I (by rw [hp]; trivial) hd .nil dd (by decide) ri rv fun s' I' => ⟨_, I', q _ (put_K (ks := []) (xs := []) (ds := []) rfl .nil rdv)⟩
      · obtain ⟨c, ed⟩ := kOf_inr e
        subst ed
        have hc : c = .mad := of_decide_eq_true hm
        subst hc
        obtain ⟨b, ys, rfl, _, ry, tr⟩ := rp_tup rdi
        have ey := key_vals ry
        subst ey
        obtain ⟨_, hd, vs, rel, dd⟩ := dt_of I.hok hp
        cases ri
        exact setT hu I (by rw [hp]; trivial) hd rel dd (by simp at hz ⊢; omega) (g _ _ (tr rfl)) rv fun s' I' => ⟨_, I', q _ (put_T hl ra rdv)⟩
    · exact q.elim
end
section
variable {K : PySem.W.Frag} {X : Cx} {n : Nat} {e b o : Expr} {m mb : ME} {pos : Pos}
/-- the owned one at slot i becomes another -/
theorem Rel.chg {σ : L2.St} {G H : Hp} {ρ : Cs} {i : Nat} {p : Addr} {ob : HO} {d d' : D} (R : Rel K σ G H ρ) (hi : ρ[i]? = some (.own d)) (hs : σ[i]? = some (some (.ref p))) (r : ObR K G ob d') : Rel K σ G (upd H p ob) (ρ.set i (.own d')) ∧ Lk n σ G H ρ σ G (upd H p ob) (ρ.set i (.own d')) := by
  obtain ⟨p', o', z1, z2, z3, z4⟩ := R.own i d hi
  rw [hs] at z1
  cases z1
  have lt := (List.getElem?_eq_some_iff.mp hi).1
  have w0 : Ow σ ρ p := ⟨i, d, hi, hs⟩
  refine ⟨⟨fun b u q => (upd_ne (ne_of_none q z3)).trans (R.gh b u q), by rw [List.length_set]; exact R.len, fun j c q => ?_, fun j c q => ?_, fun j l a c c' q q' h h' => ?_⟩, ⟨⟨Same.refl G, fun a u nm q => ?_, fun a u _ _ g _ => g, fun a q => ?_⟩, fun q w => .inl ?_, fun _ _ => rfl⟩⟩
  · rcases set_get q with ⟨_, _, z⟩ | ⟨_, z⟩
    · cases z
    · exact R.fro j c z
  · rcases set_get q with ⟨rfl, _, z⟩ | ⟨ne, z⟩
    · cases z
      exact ⟨p, ob, hs, upd_same, z3, r⟩
    · obtain ⟨p2, o2, y1, y2, y3, y4⟩ := R.own j c z
      exact ⟨p2, o2, y1, (upd_ne (fun w => by subst w; exact ne (R.apart j i p2 c d z hi y1 hs))).trans y2, y3, y4⟩
  · have back : ∀ {j : Nat} {c : D}, (ρ.set i (.own d'))[j]? = some (.own c) → ∃ c0, ρ[j]? = some (.own c0) := fun {j c} q => by
      rcases set_get q with ⟨rfl, _, _⟩ | ⟨_, z⟩
      · exact ⟨d, hi⟩
      · exact ⟨c, z⟩
    obtain ⟨c0, q0⟩ := back q
    obtain ⟨c1, q1⟩ := back q'
    exact R.apart j l a c0 c1 q0 q1 h h'
  · exact (upd_ne (fun z => by subst z; exact nm w0)).trans q
  · by_cases z : a = p
    · subst z; rw [upd_same] at q; cases q
    · rw [upd_ne z] at q; exact q
  · obtain ⟨j, c, y1, y2⟩ := w
    rcases set_get y1 with ⟨rfl, _, _⟩ | ⟨_, z⟩
    · exact ⟨_, d, hi, y2⟩
    · exact ⟨j, c, z, y2⟩
def sPut (i : Nat) (mv mi : ME) : MS := fun E ρ => mv ρ fun dv ρ1 => mOwn i ρ1 fun _ _ => mi ρ1 fun di ρ2 => match ρ2[i]? with
  | some (.own d) => oPut d di dv fun d' => E.nx (ρ2.set i (.own d'))
  | _ => False
theorem ss_put {k i : Nat} {p : Pos} (hK : X.K = K) (hr : Room k X.A) (ho : PE X o (tVar i)) (hv : SE K (fE K) X e m) (hi : SE K (fE K) X b mb)
    (ha : ∀ v, assign (.Subscript o b p) X.env v = (do
      let ov ← holding [v] (eval o X.env)
      let iv ← holding [v, ov] (eval b X.env)
      standAt p
      holding [v, ov, iv] (setItem ov iv v)
      release [v, ov, iv] []) := by intro _; rfl)
    (hs : swapsWithSole [.Subscript o b p] e pos.line X.env = pure false := by rfl) (hw : swappedStores [.Subscript o b p] e X.env = pure none := by rfl)
    (h1 : (assignEach [.Subscript o b p] X.env).map (·.2) = [assign (.Subscript o b p) X.env] := by rfl) : SS K n X (.Assign [.Subscript o b p] e pos) (sPut i m mb) := by
  subst hK
  have hu : X.A.units + 1 < cLine := Room.u1 hr
  constructor
  · intro ρ E E' a _ _ _
    refine hv.mono ρ _ _ fun dv ρ1 => mo_own ρ1 _ _ fun _ _ => hi.mono ρ1 _ _ fun di ρ2 q => ?_
    split at q
    · exact mo_put (fun d => a _) q
    · exact q.elim
  · refine ps_weak (ps_asg hv.pe (pg_sub ho hi.pe (pset_put hu) ha) hs hw h1) fun T σ H ⟨G, ρ, E, R, q, a, _⟩ => ⟨G, ρ, R, hv.mono ρ _ _ (fun dv ρ1 q v G1 H1 R1 l1 rv => ?_) q⟩
    obtain ⟨x, _, hx, _, q⟩ := own_there R1 q
    refine ⟨x, hx, G1, ρ1, R1, hi.mono ρ1 _ _ (fun di ρ2 q iv G2 H2 R2 l2 ri => ?_) q⟩
    split at q
    · rename_i d e2
      obtain ⟨p2, ob, y1, y2, y3, y4⟩ := R2.own i d e2
      rw [hx] at y1
      cases y1
      refine ⟨G2, p2, ob, d, di, dv, rfl, R2.gh, y2, y3, y4, ri, rp_same l2.st.gg rv, mo_put (fun d' q ob' r => ?_) q⟩
      obtain ⟨R3, l3⟩ := Rel.chg (n := n) R2 e2 hx r
      exact a σ G2 _ _ R3 ((l1.trans l2).up.trans l3) q
    · exact q.elim
/-! x.append(e) -/
def sAppend (i : Nat) (mv : ME) : MS := fun E ρ => mOwn i ρ fun d0 _ => (∃ xs, d0 = .list xs) ∧ mv ρ fun dv ρ2 => match ρ2[i]? with
  | some (.own (.list xs)) => xs.length < sizeLine ∧ E.nx (ρ2.set i (.own (.list (xs ++ [dv]))))
  | _ => False
theorem ss_append {i : Nat} {ap p2 : Pos} (hK : X.K = K) (ho : PE X o (tVar i)) (hv : SE K (fE K) X e m) (hbase : attributeBase o "append" X.env (eval o X.env) = eval o X.env := by rfl)
    (hfew : ((backTo p2 (starEach [e] X.env)).all (fun x => !x.1) && (backToKw p2 (keywordEach [] X.env)).all (fun x => x.1.isSome) && decide (([e] : List Expr).length + ([] : List Keyword).length + (if ([] : List Keyword).isEmpty then 0 else 1) < 30)) = true := by rfl)
    (hline : (ap.endLine == p2.line) = true := by rfl) (hs : starEach [e] X.env = (false, eval e X.env) :: starEach [] X.env := by rfl) (hplain : (backTo p2 (starEach [] X.env)).any (·.1) = false := by rfl)
    (hsw : swapsWith (.Call (.Attribute o "append" ap) [e] [] p2) none pos.line X.env = pure false := by rfl) : SS K n X (.Expr (.Call (.Attribute o "append" ap) [e] [] p2) pos) (sAppend i m) := by
  subst hK
  constructor
  · intro ρ E E' a _ _ _
    refine mo_own ρ _ _ fun d0 _ q => ⟨q.1, hv.mono ρ _ _ (fun dv ρ2 q => ?_) q.2⟩
    split at q
    · exact ⟨q.1, a _ q.2⟩
    · exact q.elim
  · refine ps_weak (ps_expr (pe_bm PySem.F.plainAttrs_list PySem.F.slot_list_append PySem.F.type_list_append mt_append ho (pa_cons hv.pe pa_nil hs) hbase hfew hline hs hplain) hsw) fun T σ H ⟨G, ρ, E, R, q, a, _⟩ => ?_
    obtain ⟨x, d0, hx, vx, ⟨xs, rfl⟩, q⟩ := own_there R q
    obtain ⟨p, ys, rfl, rd, _⟩ := vw_list R.gh vx
    refine ⟨_, hx, .inl ⟨rfl, ys, .inl rd⟩, G, ρ, R, hv.mono ρ _ _ (fun dv ρ2 q v G2 H2 R2 l2 rv => ?_) q⟩
    split at q
    · rename_i zs e2
      obtain ⟨p2, ob, y1, y2, y3, y4⟩ := R2.own i _ e2
      rw [hx] at y1
      cases y1
      cases y4 with
      | lst ra =>
        obtain ⟨R3, l3⟩ := Rel.chg (n := n) R2 e2 hx (.lst (rps_app ra (.cons rv .nil)))
        exact ⟨_, _, v, rfl, rfl, y2, by rw [rps_len ra]; exact q.1, a σ G2 _ _ R3 (l2.up.trans l3) q.2⟩
    · exact q.elim
/-! {} -/
def mDNew : ME := fun ρ k => k (.dict []) ρ
theorem se_dnewK : SE K (fF K) X (.Dict [] [] pos) mDNew := by
  refine ⟨fun ρ k k' w => w _ _, pe_weak pe_dnewK fun σ H Q ⟨G, ρ, R, q⟩ p np => ?_⟩
  have st := stp_new (G := G) (o := .dK []) np
  exact q _ G _ (R.pure st (same_new1 R.gh np)) (.pure st) ⟨p, _, rfl, np, fun w => R.old w np, upd_same, R.gh.free np, .dK (ks := []) (xs := []) (ds := []) rfl .nil⟩
/-! texts -/
def mSplit (ma mb : ME) : ME := fun ρ k => ma ρ fun da ρ1 => match da with
  | .str x => mb ρ1 fun db ρ2 => match db with
    | .str y => (y.length == 0) = false ∧ x.length + 2 ≤ sizeLine ∧ k (.list ((Txt.split x y).map .str)) ρ2
    | _ => False
  | _ => False
theorem rps_strs {G : Hp} : ∀ ys : List Str, RpAll K G (ys.map V.str) (ys.map D.str)
  | [] => .nil
  | y :: ys => .cons (.str y) (rps_strs ys)
theorem se_split {a : Expr} {ma : ME} {ap : Pos} (hK : X.K = K) (ha : SE K (fE K) X a ma) (hb : SE K (fE K) X b mb) (hs : starEach [b] X.env = [(false, eval b X.env)] := by rfl) (hbase : attributeBase a "split" X.env (eval a X.env) = eval a X.env := by rfl) (hline : (ap.endLine == pos.line) = true := by rfl) :
    SE K (fF K) X (.Call (.Attribute a "split" ap) [b] [] pos) (mSplit ma mb) := by
  constructor
  · intro ρ k k' w
    refine ha.mono ρ _ _ fun da ρ1 q => ?_
    cases da <;> first | exact q.elim | skip
    refine hb.mono ρ1 _ _ (fun db ρ2 q => ?_) q
    cases db <;> first | exact q.elim | exact ⟨q.1, q.2.1, w _ _ q.2.2⟩
  · refine pe_weak (pe_split ha.pe hb.pe hs hbase hline) fun σ H Q ⟨G, ρ, R, q⟩ => ⟨G, ρ, R, ha.mono ρ _ _ (fun da ρ1 q x G1 H1 R1 l1 rx => ?_) q⟩
    cases da <;> first | exact q.elim | skip
    rename_i sx
    cases rx
    refine ⟨⟨_, rfl⟩, G1, ρ1, R1, hb.mono ρ1 _ _ (fun db ρ2 q y G2 H2 R2 l2 ry => ?_) q⟩
    cases db <;> first | exact q.elim | skip
    rename_i sy
    cases ry
    refine ⟨_, _, rfl, rfl, q.1, q.2.1, fun p np => ?_⟩
    have st := stp_new (G := G2) (o := .lst ((Txt.split sx sy).map V.str)) np
    exact q.2.2 _ G2 _ (R2.pure st (same_new1 R2.gh np)) ((l1.trans l2).trans (.pure st)) ⟨p, _, rfl, (l1.trans l2).st.dom p np, fun w => R2.old w np, upd_same, R2.gh.free np, .lst (rps_strs _)⟩
def strsOf : List D → Option (List Str)
  | [] => some []
  | .str x :: r => (strsOf r).map (x :: ·)
  | _ => none
def seqOf : D → Option (List D)
  | .list ds => some ds
  | .tuple _ ds => some ds
  | _ => none
def mJoin (ma mb : ME) : ME := fun ρ k => ma ρ fun da ρ1 => match da with
  | .str x => mb ρ1 fun db ρ2 => match (seqOf db).bind strsOf with
    | some ys => (ys.map (·.length)).sum + ys.length * x.length ≤ 16777216 ∧ k (.str (Txt.join x ys)) ρ2
    | none => False
  | _ => False
theorem strs_V {G : Hp} : ∀ {xs : List V} {ds : List D} {ys : List Str}, RpAll K G xs ds → strsOf ds = some ys → xs = ys.map V.str
  | _, _, _, .nil, h => by cases h; rfl
  | _, _, _, .cons (d := d) r rs, h => by
    cases d <;> first | cases h; done | skip
    cases r
    obtain ⟨zs, h1, h2⟩ := Option.map_eq_some_iff.mp h
    subst h2
    rw [strs_V rs h1]; rfl
theorem se_join {a : Expr} {ma : ME} {ap : Pos} (hK : X.K = K) (ha : SE K (fE K) X a ma) (hb : SE K (fV K) X b mb) (hs : starEach [b] X.env = [(false, eval b X.env)] := by rfl) (hbase : attributeBase a "join" X.env (eval a X.env) = eval a X.env := by rfl) (hline : (ap.endLine == pos.line) = true := by rfl) :
    SE K (fE K) X (.Call (.Attribute a "join" ap) [b] [] pos) (mJoin ma mb) := by
  subst hK
  constructor
  · intro ρ k k' w
    refine ha.mono ρ _ _ fun da ρ1 q => ?_
    cases da <;> first | exact q.elim | skip
    refine hb.mono ρ1 _ _ (fun db ρ2 q => ?_) q
    split at q
    · exact ⟨q.1, w _ _ q.2⟩
    · exact q.elim
  · refine pe_weak (pe_join ha.pe hb.pe hs hbase hline) fun σ H Q ⟨G, ρ, R, q⟩ => ⟨G, ρ, R, ha.mono ρ _ _ (fun da ρ1 q x G1 H1 R1 l1 rx => ?_) q⟩
    cases da <;> first | exact q.elim | skip
    cases rx
    refine ⟨⟨_, rfl⟩, G1, ρ1, R1, hb.mono ρ1 _ _ (fun db ρ2 q y G2 H2 R2 l2 ry => ?_) q⟩
    split at q
    · rename_i ys e2
      obtain ⟨ds, e3, e4⟩ := Option.bind_eq_some_iff.mp e2
      cases db <;> first | cases e3; done | skip
      · cases e3
        obtain ⟨p, zs, rfl, rd, ra⟩ := vw_list R2.gh ry
        exact ⟨_, p, ys, rfl, rfl, .inl (.inl (by rw [← strs_V ra e4]; exact rd)), q.1, q.2 _ G2 H2 R2 (l1.trans l2) (.str _)⟩
      · cases e3
        obtain ⟨p, zs, rfl, _, sq, ra⟩ := vw_tup R2.gh ry
        exact ⟨_, p, ys, rfl, rfl, .inr (by rw [← strs_V ra e4]; exact sq), q.1, q.2 _ G2 H2 R2 (l1.trans l2) (.str _)⟩
    · exact q.elim
end
end Dl

set_option Elab.async false
set_option linter.all false
set_option maxRecDepth 100000
set_option maxHeartbeats 4000000
namespace Dl
open PySem PySem.Spec PyProof.Rows L2 Br
/-! ### a def that hands back a new list: its caller's own -/
def tSF (K : PySem.W.Frag) (m : MS) : TS := fun T σ H => ∃ G ρ E, Rel K σ G H ρ ∧ m E ρ ∧ ∀ v d σ' G' H' ρ', Rel K σ' G' H' ρ' → Lk 0 σ G H ρ σ' G' H' ρ' → fF K H σ' ρ' G' H' v d → E.rt d ρ' → T.rt v H'
structure SBF (K : PySem.W.Frag) (X : Cx) (sts : List Stmt) (m : MS) : Prop where
  mono : ∀ (ρ : Cs) (E E' : Dn), (∀ d ρ', E.rt d ρ' → E'.rt d ρ') → m E ρ → m E' ρ
  ps : PSs X sts (tSF K m)
section
variable {K : PySem.W.Frag} {X : Cx} {st : Stmt} {sts : List Stmt} {ms mu : MS} {e : Expr} {m : ME} {pos : Pos}
theorem sbf_ret (h : SE K (fF K) X e m) : SBF K X [.Return (some e) pos] (sRet m) :=
  ⟨fun ρ E E' w => h.mono ρ _ _ w, pss_weak (pss_one (ps_ret h.pe)) fun T σ H ⟨G, ρ, E, R, q, b⟩ => ⟨G, ρ, R, h.mono ρ _ _ (fun d ρ1 q v G1 H1 R1 l r => b v d σ G1 H1 ρ1 R1 l r q) q⟩⟩
/-- statements that hand nothing back, then the rest -/
def sSeqF (a b : MS) : MS := fun E ρ => a { nx := b E, rt := fun _ _ => False } ρ
theorem sbf_cons (h : SS K 0 X st ms) (g : SBF K X sts mu) : SBF K X (st :: sts) (sSeqF ms mu) := by
  refine ⟨fun ρ E E' w => h.mono ρ _ _ (fun ρ1 => g.mono ρ1 _ _ w) (fun _ _ z => z) (fun _ z => z) (fun _ z => z), pss_weak (pss_cons h.ps g.ps) fun T σ H ⟨G, ρ, E, R, q, b⟩ => ?_⟩
  refine ⟨G, ρ, _, R, q, fun σ1 G1 H1 ρ1 R1 l1 q1 => ⟨G1, ρ1, E, R1, q1, fun v d σ2 G2 H2 ρ2 R2 l2 f => b v d σ2 G2 H2 ρ2 R2 (l1.trans l2) ?_⟩, fun _ _ _ _ _ _ _ _ _ z => z.elim, fun _ _ _ _ _ _ z => z.elim, fun _ _ _ _ _ _ z => z.elim⟩
  obtain ⟨p, o, e, h0, r⟩ := f
  exact ⟨p, o, e, l1.st.dom p h0, r⟩
abbrev Ff := List D → (D → Prop) → Prop
def spF (K : PySem.W.Frag) (np : Nat) (F : Ff) : Sp := fun vs H Q _ => vs.length = np ∧ ∃ G ds, Same G H ∧ RpAll K G vs ds ∧ F ds (Then K (pF K) G H Q)
structure FnF (P : Program) (w : World) (K : PySem.W.Frag) (mg : Str → Option Value) (base : Heap) (k : Nat) (f : Addr) (fd : FuncData) (ps : List Str) (F : Ff) : Prop where
  ok : FnG P w K mg base CX0 k f fd ps (spF K ps.length F)
  mo : ∀ ds (k k' : D → Prop), (∀ d, k d → k' d) → F ds k → F ds k'
  ln : ∀ ds k, F ds k → ds.length = ps.length
def FofF (np m : Nat) (b : MS) : Ff := fun ds k => ds.length = np ∧ ∃ k0 : D → Prop, (∀ d, k0 d → k d) ∧ b { nx := fun _ => False, rt := fun d _ => k0 d } (ds.map .fro ++ List.replicate m .un)
end
section
variable {P : Program} {w : World} {K : PySem.W.Frag} {mg : Str → Option Value} {base : Heap} {k : Nat} {f : Addr} {fd : FuncData} {ps : List Str}
theorem rel_fro {G H : Hp} (g : Same G H) {vs : List V} {ds : List D} (r : RpAll K G vs ds) : Rel K (vs.map some) G H (ds.map .fro) := by
  have nown : ∀ (i : Nat) (d : D), (ds.map Cell.fro)[i]? ≠ some (.own d) := fun i d z => by
    rw [List.getElem?_map] at z
    cases q : ds[i]? with
    | none => rw [q] at z; cases z
    | some _ => rw [q] at z; cases z
  refine ⟨g, by rw [List.length_map, List.length_map, rps_len r], fun i d z => ?_, fun i d z => (nown i d z).elim, fun i _ _ d _ z => (nown i d z).elim⟩
  rw [List.getElem?_map] at z
  cases q : ds[i]? with
  | none => rw [q] at z; cases z
  | some d' =>
    rw [q] at z
    cases z
    obtain ⟨v, hv, rv⟩ := rps_get' r q
    exact ⟨v, by rw [List.getElem?_map, hv]; rfl, rv⟩
theorem ow_fro {vs : List V} {ds : List D} {p : Addr} {more : L2.St} {un : Cs} (hu : ∀ (i : Nat) (d : D), un[i]? ≠ some (.own d)) : ¬ Ow (vs.map some ++ more) (ds.map .fro ++ un) p := by
  rintro ⟨i, d, z, _⟩
  by_cases hi : i < (ds.map Cell.fro).length
  · rw [List.getElem?_append_left hi, List.getElem?_map] at z
    cases q : ds[i]? with
    | none => rw [q] at z; cases z
    | some _ => rw [q] at z; cases z
  · rw [List.getElem?_append_right (by omega)] at z
    exact hu _ _ z
theorem fn_ofF {x qual : Str} {st : Stmt} {N : List Str} {np m : Nat} {b : MS} (Fu : Fun K x qual st f fd) (S : FnScope N ps (defScope st)) (hp : ps.length = np) (hm : N.length - ps.length = m)
    (body : ∀ (cdv : Value) (Ar : Around) (out : List PySem.Env) (s0 : Shared) (H : Hp) (E : XK), Bare Ar → Room k (Ar.deeper (envOfC qual (defScope st) s0.heap.objs.size f cdv)) →
      SBF K (cxOf CX0 P w K mg base N qual (defScope st) f cdv Ar out s0 H E).nox (defBody st) b) : FnF P w K mg base (k + 1) f fd ps (FofF np m b) := by
  subst hp hm
  refine ⟨okG Fu S (fun vs H Q E h => h.1) fun cdv Ar out s0 H vs Q E hG hr hsp => ?_, fun ds k k' w h => ?_, fun ds k h => h.1⟩
  · obtain ⟨hl, G, ds, g, r, hd, k0, w0, q⟩ := hsp
    have sb := body cdv Ar out s0 H E hG hr
    have R0 := (rel_fro g r).more (N.length - ps.length)
    have e0 : vs.map some ++ List.replicate (N.length - ps.length) none = L2.start N vs := by unfold L2.start; rw [hl]
    have nu : ∀ (i : Nat) (d : D), (List.replicate (N.length - ps.length) Cell.un)[i]? ≠ some (.own d) := fun i d z => by
      rw [List.getElem?_replicate] at z
      split at z <;> cases z
    rw [e0] at R0
    refine ⟨_, sb.ps, G, _, _, R0, q, fun v d σ' G' H' ρ' R' l f hk => ?_⟩
    obtain ⟨p, o, ev, h0, nw, hp, gp, ob⟩ := f
    refine w0 d hk v G' H' R'.gh ⟨l.st.gg, fun a u _ z => l.st.hh a u ?_ z, fun a u _ z => l.st.fr a u ?_ z, l.st.dom⟩ ⟨p, o, ev, h0, hp, gp, ob⟩
    · rw [← e0]; exact ow_fro nu
    · rw [← e0]; exact ow_fro nu
  · obtain ⟨h1, k0, h2, h3⟩ := h
    exact ⟨h1, k0, fun d z => w d (h2 d z), h3⟩
end
section
variable {K : PySem.W.Frag} {X : Cx} {a b : Expr} {es : List Expr} {ma : ME} {pos : Pos}
def mCallF (F : Ff) (ma : MA) : ME := fun ρ k => ma ρ fun ds ρ1 => F ds fun d => k d ρ1
theorem se_callF {F : Ff} {mr : MA} {k j : Nat} {f : Addr} {fd : FuncData} {ps : List Str} {x : Str} {p : Pos} (Fn : FnF X.prog X.w K X.mg X.base j f fd ps F) (hK : X.K = K) (hG : Bare X.A) (hr : Room k X.A) (hj : j ≤ k) (hg : Gl X x) (hm : X.mg x = some (.ref f)) (hk : PySem.W.keepIn K (.ref f) = true) (hb : Binds K fd ps []) (ha : SA K X (a :: es) mr)
    (hdb : (x == ("__debug__" : Str)) = false := by decide) (he : starEach (a :: es) X.env = (false, eval a X.env) :: starEach es X.env := by rfl) (hpl : (backTo pos (starEach es X.env)).any (·.1) = false := by rfl) : SE K (fF K) X (.Call (.Name x p) (a :: es) [] pos) (mCallF F mr) := by
  subst hK
  refine ⟨fun ρ k k' w => ha.mono ρ _ _ fun ds ρ1 => Fn.mo _ _ _ fun d => w d ρ1, pe_weak (pe_callG (E := fun _ _ _ => False) Fn.ok hG (hr.mono hj) hg hm hk hb pass0 ha.pa hdb he hpl) fun σ H Q ⟨G, ρ, R, q⟩ => ⟨G, ρ, R, ha.mono ρ _ _ (fun ds ρ1 q vs G1 H1 R1 l1 rs => ?_) q⟩⟩
  show spF X.K ps.length F (vs ++ []) H1 Q _
  rw [List.append_nil]
  refine ⟨by rw [rps_len rs]; exact Fn.ln _ _ q, G1, ds, R1.gh, rs, Fn.mo _ _ _ (fun d q v G2 H2 gh st pv => ?_) q⟩
  exact q v G2 H2 (R1.pure st gh) (l1.trans (.pure st)) (embF σ ρ ρ1 G H G1 H1 G2 H2 v d R1 l1 pv)
/-! ### slices -/
abbrev MO := Cs → (Option Int → Cs → Prop) → Prop
def pNo : MO := fun ρ k => k none ρ
def pSome (m : ME) : MO := fun ρ k => m ρ fun d ρ1 => match d with
  | .int i => k (some i) ρ1
  | _ => False
def tO (K : PySem.W.Frag) (m : MO) : TO := fun σ H Q => ∃ G ρ, Rel K σ G H ρ ∧ m ρ fun o ρ' => ∀ G' H', Rel K σ G' H' ρ' → Lk 0 σ G H ρ σ G' H' ρ' → Q o H'
structure SO (K : PySem.W.Frag) (X : Cx) (e : Option Expr) (m : MO) : Prop where
  mono : Mo m
  po : PO X e (tO K m)
theorem po_weak {e : Option Expr} {t t' : TO} (h : PO X e t) (w : ∀ σ H Q, t' σ H Q → t σ H Q) : PO X e t' := ⟨fun pins s σ H Q I q => h.run pins s σ H Q I (w σ H Q q)⟩
theorem so_none : SO K X none pNo := ⟨fun _ _ _ w => w _ _, po_weak po_none fun σ H Q ⟨G, ρ, R, q⟩ => q G H R .refl⟩
theorem so_some {e : Expr} {m : ME} (h : SE K (fE K) X e m) : SO K X (some e) (pSome m) := by
  refine ⟨fun ρ k k' w => h.mono ρ _ _ fun d ρ1 q => ?_, po_weak (po_some h.pe) fun σ H Q ⟨G, ρ, R, q⟩ => ⟨G, ρ, R, h.mono ρ _ _ (fun d ρ1 q v G1 H1 R1 l r => ?_) q⟩⟩
  · cases d <;> first | exact q.elim | exact w _ _ q
  · cases d <;> first | exact q.elim | skip
    cases r
    exact ⟨_, rfl, q G1 H1 R1 l⟩
def cutD {α : Type} (xs : List α) (lo hi : Option Int) : List α := (xs.drop (HT.sIx xs.length 0 lo)).take (HT.sIx xs.length xs.length hi - HT.sIx xs.length 0 lo)
def oSlice (d : D) (lo hi : Option Int) (k : D → Prop) : Prop := match d with
  | .list xs => k (.list (cutD xs lo hi))
  | .tuple c xs => k (.tuple (tkAdd c c) (cutD xs lo hi))
  | .str z => z.length ≤ sizeLine ∧ k (.str (cutS z lo hi))
  | _ => False
theorem mo_slice {d : D} {lo hi : Option Int} {k k' : D → Prop} (w : ∀ d, k d → k' d) (h : oSlice d lo hi k) : oSlice d lo hi k' := by
  cases d <;> first | exact h.elim | exact w _ h | exact ⟨h.1, w _ h.2⟩
theorem rps_take {G : Hp} : ∀ (n : Nat) {xs : List V} {ds : List D}, RpAll K G xs ds → RpAll K G (xs.take n) (ds.take n)
  | 0, _, _, _ => .nil
  | _ + 1, _, _, .nil => .nil
  | n + 1, _, _, .cons a r => .cons a (rps_take n r)
theorem rps_drop {G : Hp} : ∀ (n : Nat) {xs : List V} {ds : List D}, RpAll K G xs ds → RpAll K G (xs.drop n) (ds.drop n)
  | 0, _, _, r => r
  | _ + 1, _, _, .nil => .nil
  | n + 1, _, _, .cons _ r => rps_drop n r
theorem rps_cut {G : Hp} {xs : List V} {ds : List D} (r : RpAll K G xs ds) (lo hi : Option Int) : RpAll K G (cutV xs lo hi) (cutD ds lo hi) := by
  unfold cutV cutD
  rw [rps_len r]
  exact rps_take _ (rps_drop _ r)
def rSlO (K : PySem.W.Frag) : V → Option Int → Option Int → Hp → VK → Prop := fun x lo hi H Q => ∃ G d, Same G H ∧ Vw K G H x d ∧ oSlice d lo hi (Then K (pE K) G H Q)
theorem slr_data : SlR X (rSlO X.K) := by
  intro pins s σ H x v vl vu lo hi sl Q I rx hs pl pu h
  obtain ⟨G, d, g, hx, q⟩ := h
  cases d with
  | list xs =>
    obtain ⟨p, ys, rfl, rd, ra⟩ := vw_list g hx
    exact sl_list pins s σ H _ v vl vu lo hi sl Q I rx hs pl pu ⟨p, ys, rfl, .inl rd, fun n nn => newG g q nn (.lst (.inl upd_same) (rps_same (same_upd (g.free nn)) (rps_cut ra lo hi)))⟩
  | tuple c xs =>
    obtain ⟨p, ys, rfl, r0, sq, ra⟩ := vw_tup g hx
    refine sl_tupA pins s σ H _ v vl vu lo hi sl Q I rx hs pl pu ⟨p, ys, rfl, sq, fun wh => ?_, fun _ n nn => newG g q nn (rp_any (.tup upd_same (rps_same (same_upd (g.free nn)) (rps_cut ra lo hi))))⟩
    have e : cutD xs lo hi = xs := by
      unfold cutD
      rw [rps_len ra] at wh
      rw [wh.1, wh.2, Nat.sub_zero, List.drop_zero, List.take_length]
    have q : Then X.K (pE X.K) G H Q (.tuple (tkAdd c c) (cutD xs lo hi)) := q
    rw [e] at q
    exact stay g q (rp_andL r0)
  | str z =>
    have ex := vw_str hx
    subst ex
    exact sl_str pins s σ H _ v vl vu lo hi sl Q I rx hs pl pu ⟨z, rfl, q.1, stay g q.2 (.str _)⟩
  | _ => exact q.elim
def mSlice (ma : ME) (ml mh : MO) : ME := fun ρ k => ma ρ fun da ρ1 => ml ρ1 fun lo ρ2 => mh ρ2 fun hi ρ3 => oSlice da lo hi fun d => k d ρ3
theorem se_slice {lo hi : Option Expr} {ml mh : MO} {p2 : Pos} (hK : X.K = K) (ha : SE K (fE K) X a ma) (hl : SO K X lo ml) (hh : SO K X hi mh) : SE K (fE K) X (.Subscript a (.Slice lo hi none p2) pos) (mSlice ma ml mh) := by
  subst hK
  refine ⟨fun ρ k k' w => ha.mono ρ _ _ fun da ρ1 => hl.mono ρ1 _ _ fun l ρ2 => hh.mono ρ2 _ _ fun h ρ3 => mo_slice fun d => w d ρ3, pe_weak (pe_slice slr_data ha.pe hl.po hh.po) fun σ H Q ⟨G, ρ, R, q⟩ => ⟨G, ρ, R, ha.mono ρ _ _ (fun da ρ1 q x G1 H1 R1 l1 rx => ?_) q⟩⟩
  refine ⟨G1, ρ1, R1, hl.mono ρ1 _ _ (fun l ρ2 q G2 H2 R2 l2 => ⟨G2, ρ2, R2, hh.mono ρ2 _ _ (fun h ρ3 q G3 H3 R3 l3 => ?_) q⟩) q⟩
  refine ⟨G3, da, R3.gh, .fro (rp_same (l2.trans l3).st.gg rx), mo_slice (fun d q v G4 H4 gh st pv => ?_) q⟩
  exact q v G4 H4 (R3.pure st gh) (((l1.trans l2).trans l3).trans (.pure st)) pv
/-! ### list(d): its keys -/
def oKeys : O1 := fun a k => match a with
  | .dict ps => k (.list (ps.map (·.1)))
  | _ => False
theorem mo_keys : Mo1 oKeys := fun a k k' w h => by cases a <;> first | exact h.elim | exact w _ h
theorem rps_keys {G : Hp} : ∀ ks : List Key, RpAll K G (ks.map kV) (ks.map keyD)
  | [] => .nil
  | .inl i :: ks => .cons (.int i) (rps_keys ks)
  | .inr x :: ks => .cons (.str x) (rps_keys ks)
theorem zipk : ∀ {ks : List Key} {xs : List V}, ks.length = xs.length → (ks.zip xs).map (fun kv => kV kv.1) = ks.map kV
  | [], _, _ => rfl
  | _ :: _, [], h => by cases h
  | k :: ks, x :: xs, h => by rw [List.zip_cons_cons, List.map_cons, zipk (Nat.succ.inj h)]; rfl
/-- tuples that are tracked are taken into G -/
def withT (G H : Hp) : Hp := fun a => match H a with
  | some (.tup xs) => some (.tup xs)
  | _ => G a
theorem withT_same {G H : Hp} (g : Same G H) : Same G (withT G H) ∧ Same (withT G H) H ∧ Stp Pure G H (withT G H) H := by
  have h1 : Same G (withT G H) := fun b o e => by
    unfold withT
    rw [g b o e]
    cases o <;> first | rfl | exact e
  have h2 : Same (withT G H) H := fun b o e => by
    unfold withT at e
    cases q : H b with
    | none =>
      rw [q] at e
      dsimp only at e
      rw [g b o e] at q
      cases q
    | some u =>
      rw [q] at e
      cases u <;> first | exact e | (dsimp only at e; have z := g b o e; rw [q] at z; exact z)
  refine ⟨h1, h2, h1, fun a o _ e => e, fun a o _ e g0 t => ?_, fun a e => e⟩
  unfold withT
  rw [e]
  cases o <;> first | exact g0 | cases t
theorem withT_at {G H : Hp} {a : Addr} {xs : List V} (e : H a = some (.tup xs)) : withT G H a = some (.tup xs) := by
  unfold withT
  rw [e]
theorem se_list_dict {p : Pos} (hK : X.K = K) (hc : X.calm = true) (hg : Gl X "list") (hm : X.mg "list" = none) (ha : SE K (fV K) X a ma) (hs : starEach [a] X.env = [(false, eval a X.env)] := by rfl) (hpl : (backTo pos (starEach [] X.env)).any (·.1) = false := by rfl) :
    SE K (fF K) X (.Call (.Name "list" p) [a] [] pos) (mUn oKeys ma) := by
  subst hK
  refine se_t1 (T := "list") (π := pF X.K) (r := fun xs H Q => (∃ (b : Addr) (kvs : List (Key × V)), xs = [.ref b] ∧ Rd H b (.dK kvs) ∧ ∀ p, H p = none → Q (.ref p) (upd H p (.lst (kvs.map fun kv => kV kv.1)))) ∨
      (∃ d kvs, xs = [V.ref d] ∧ Rd H d (.dT kvs) ∧ ∀ p bs, H p = none → IsKeys H kvs bs → Q (.ref p) (upd H p (.lst (bs.map V.ref))))) (fun pins s σ H xs us Q I r h => ?_) (fun y H Q h => ?_) mo_keys embF hg hm (by decide +kernel) ha hs (by decide) (by decide) hpl
  · rcases h with h | h
    · exact call_listD hc pins s σ H xs us Q I r h
    · exact call_list_dT hc pins s σ H xs us Q I r h
  obtain ⟨G, d, g, hx, q⟩ := h
  cases d <;> first | exact q.elim | skip
  obtain ⟨b, rfl, c⟩ := vw_dict g hx
  rcases c with ⟨ks, xs, ds, rd, hl, ra, rfl⟩ | ⟨ks, xs, ds, rd, hl, ra, rfl⟩
  · refine .inl ⟨b, _, rfl, rd, fun n nn => newF g q nn ?_⟩
    have le := rps_len ra
    rw [show ((ks.map keyD).zip ds).map (·.1) = ks.map keyD from List.map_fst_zip (by simp; omega), show (ks.zip xs).map (fun kv => kV kv.1) = ks.map kV from zipk hl]
    exact .lst (rps_keys ks)
  · refine .inr ⟨b, _, rfl, rd, fun n bs nn ik => ?_⟩
    have le := rps_len ra
    obtain ⟨h1, h2, h3⟩ := withT_same g
    have kk : ∀ {ks : List (List Key)} {xs : List V} {bs : List Addr}, ks.length = xs.length → IsKeys H (ks.zip xs) bs → RpAll X.K (withT G H) (bs.map V.ref) (ks.map fun k => D.tuple .mad (k.map keyD)) := by
      intro ks
      induction ks with
      | nil => intro xs bs _ h; cases h; exact .nil
      | cons k ks ih =>
        intro xs bs hl h
        cases xs with
        | nil => cases hl
        | cons x xs =>
          cases h with
          | cons e t => exact .cons (.tup (withT_at e) (rps_keys k)) (ih (Nat.succ.inj hl) t)
    have q : Then X.K (pF X.K) G H Q (.list (((ks.map fun k => D.tuple .mad (k.map keyD)).zip ds).map (·.1))) := q
    rw [show ((ks.map fun k => D.tuple .mad (k.map keyD)).zip ds).map (·.1) = ks.map fun k => D.tuple .mad (k.map keyD) from List.map_fst_zip (by simp; omega)] at q
    exact q _ (withT G H) _ (same_new1 h2 nn) (h3.trans (stp_new nn)) ⟨n, _, rfl, nn, upd_same, h2.free nn, .lst (kk hl ik)⟩
/-! ### d.pop(key) of an owned dict, the key there -/
def dropKs (ps : List (D × D)) (k : Key ⊕ List Key) : List (D × D) := ps.filter fun p => decide (kOf p.1 ≠ some k)
theorem drop_T {G : Hp} {k : List Key} : ∀ {ks : List (List Key)} {xs : List V} {ds : List D}, ks.length = xs.length → RpAll K G xs ds →
    ∃ (qs : List (List Key)) (ys : List V) (es : List D), dropK (ks.zip xs) k = qs.zip ys ∧ qs.length = ys.length ∧ RpAll K G ys es ∧ dropKs ((ks.map fun k => D.tuple .mad (k.map keyD)).zip ds) (.inr k) = (qs.map fun k => D.tuple .mad (k.map keyD)).zip es
  | [], xs, ds, hl, r => by
    cases xs with
    | nil => exact ⟨[], [], [], rfl, rfl, .nil, rfl⟩
    | cons _ _ => cases hl
  | q :: ks, _, _, hl, .nil => by cases hl
  | q :: ks, x :: xs, e :: ds, hl, .cons r rs => by
    obtain ⟨qs, ys, es, h1, h2, h3, h4⟩ := drop_T (k := k) (ks := ks) (Nat.succ.inj hl) rs
    unfold dropK dropKs at *
    by_cases z : q = k
    · refine ⟨qs, ys, es, ?_, h2, h3, ?_⟩
      · rw [List.zip_cons_cons, List.filter_cons_of_neg (by simp [z])]
        exact h1
      · rw [List.map_cons, List.zip_cons_cons, List.filter_cons_of_neg (by simp only [kOf_T]; simp [z])]
        exact h4
    · refine ⟨q :: qs, x :: ys, e :: es, ?_, congrArg (· + 1) h2, .cons r h3, ?_⟩
      · rw [List.zip_cons_cons, List.filter_cons_of_pos (by simp [z]), h1]; rfl
      · rw [List.map_cons, List.zip_cons_cons, List.filter_cons_of_pos (by simp only [kOf_T]; simp [z]), h4]; rfl
def sDPop (i : Nat) (mk : ME) : MS := fun E ρ => mOwn i ρ fun d0 _ => (∃ ps, d0 = .dict ps) ∧ mk ρ fun dk ρ2 => match ρ2[i]? with
  | some (.own (.dict ps)) => match kOf dk with
    | some (.inr k) => (dLook ps dk).isSome = true ∧ E.nx (ρ2.set i (.own (.dict (dropKs ps (.inr k)))))
    | _ => False
  | _ => False
/-- what is asked of the values -/
def rPopD (K : PySem.W.Frag) (x y : V) (H : Hp) (Q : VK) : Prop := ∃ G p ob ps dk k, x = .ref p ∧ Same G H ∧ H p = some ob ∧ G p = none ∧ ObR K G ob (.dict ps) ∧ Rp K G y dk ∧ kOf dk = some (.inr k) ∧ (dLook ps dk).isSome = true ∧
  ∀ v ob', ObR K G ob' (.dict (dropKs ps (.inr k))) → Q v (upd H p ob')
theorem pop_run {pins : List (Addr × Obj)} {σ : L2.St} {H : Hp} {s : Shared} {Q : VK} {x y : V} {u : Value} {p : Addr} (hu : X.A.units + 1 < cLine) (I : Inv X pins σ H s) (h : rPopD X.K x y H Q) (ex : x = .ref p) (ry : RelV y u) :
    wpAny (model X.prog X.w) X.A (call (.builtin "dict.pop") [.ref p, u]) (EP X pins σ Q) X.xe s := by
  subst ex
  obtain ⟨G, p', ob, ps, dk, k, e, g, hp, gp, ro, rk, ek, hs, q⟩ := h
  cases e
  obtain ⟨c, ed⟩ := kOf_inr ek
  subst ed
  obtain ⟨b, ys, rfl, sq, rr, _⟩ := rp_tup rk
  have ey := key_vals rr
  subst ey
  cases ry
  have isk := key_sq I (sqT_same g sq)
  have lk : dLook ps (.tuple c (k.map keyD)) = look kOf (.inr k) ps := by unfold dLook; rw [ek]
  rw [lk] at hs
  cases ro with
  | @dT ks xs ds hl ra =>
    obtain ⟨z, hd, zs, rel, dd⟩ := dt_of I.hok hp
    have lz := Paired.length rel
    refine call_meetsIn PySem.F.slot_dict_pop dd.typeIs PySem.F.entry_dict_pop (PySem.F.args_dict_pop_2 _ _) (meetsH_dict_pop (tupleKind (mixKind X.prog X.w)) p b hd [] (.inl rfl)) ⟨tupleKind_room_in1 hu, k, zs, isk, dd, by omega, fun at' hat h' dd' hsb => ?_, fun no tk => ?_⟩
    · have r := rel.val k
      rw [hat] at r
      obtain ⟨v0, ev, rv⟩ : ∃ v0, valV (ks.zip xs) k = some v0 ∧ RelV v0 at'.2 := by
        cases ev : valV (ks.zip xs) k with
        | none => rw [ev] at r; exact (show False from r).elim
        | some v0 => rw [ev] at r; exact ⟨v0, rfl, r⟩
      obtain ⟨o, es, ep, hq, h2, h3, h4, _, h5⟩ := dd'
      have lw : withoutH zs k = DT.dropH zs k := rfl
      obtain ⟨qs, ys, es', e1, e2, e3, e4⟩ := drop_T (k := k) hl ra
      refine ⟨v0, upd H p (.dT (dropK (ks.zip xs) k)), d_write I (by rw [hp]; trivial) hsb ⟨o, hq⟩ ⟨Nat.le_trans (dropK_le _ k) z, hd, _, (L2.DX.KT_drop k rel).keeps fun c ys ec => ?_, o, es, ep, hq, h2, h3, h4, h5⟩, rv, q v0 _ (by rw [e1, e4]; exact .dT e2 e3)⟩
      rw [upd_ne (ne_of ec hp (fun z => nomatch z))]
      exact ec
    · exfalso
      have r := rel.val k
      rw [no] at r
      rcases look_T (k := k) hl ra with ⟨v, e, h1, h2, h3⟩ | ⟨h1, h2⟩
      · rw [h1] at r; exact r
      · rw [h2] at hs; cases hs
  | @dK ks xs ds hl ra =>
    exfalso
    have : ∀ {ks : List Key} {ds : List D}, look kOf (.inr k) ((ks.map keyD).zip ds) = none := by
      intro ks
      induction ks with
      | nil => intro ds; rfl
      | cons q ks ih =>
        intro ds
        cases ds with
        | nil => rfl
        | cons d ds =>
          show (if kOf (keyD q) = some (.inr k) then some d else look kOf (.inr k) ((ks.map keyD).zip ds)) = none
          rw [kOf_D, if_neg (fun z => by cases z)]
          exact ih
    rw [this] at hs
    cases hs
def tPopD (K : PySem.W.Frag) (td ty : TE) : TE := fun σ H Q => td σ H fun x H1 => (∃ a, x = .ref a ∧ IsD H1 a) ∧ ty σ H1 fun y H2 => rPopD K x y H2 Q
theorem pe_popD {o e : Expr} {apos cpos : Pos} {td ty : TE} (hu : X.A.units + 1 < cLine) (ho : PE X o td) (he : PE X e ty) (m : M1 X o "pop" apos e cpos) : PE X (.Call (.Attribute o "pop" apos) [e] [] cpos) (tPopD X.K td ty) := by
  constructor
  intro pins s σ H Q I h
  refine wpAny_Call_method m.base m.few m.line PySem.F.plainAttrs_dict PySem.F.slot_dict_pop PySem.F.type_dict_pop (thn (ho.run pins s σ H _ I h) fun u s1 hh => ?_)
  obtain ⟨x, H1, I1, rx, ⟨p, ex, dd⟩, q1⟩ := hh
  subst ex
  obtain rfl : u = Value.ref p := rx
  obtain ⟨t1, t2, _⟩ := isD_at I1 dd
  refine ⟨t1, t2, ?_⟩
  rw [m.trees]
  refine Calls.callWith_builtin rfl (Calls.evalArgs_plain (Calls.spliced_cons (thn (he.run pins s1 σ H1 _ I1 q1) fun iv s2 hh2 => Calls.spliced_nil ?_)))
  obtain ⟨y, H2, I2, ry, q2⟩ := hh2
  exact pop_run hu I2 q2 rfl ry
theorem ss_dpop {n i k : Nat} {o e : Expr} {m : ME} {ap p2 : Pos} (hK : X.K = K) (hr : Room k X.A) (ho : PE X o (tVar i)) (hv : SE K (fE K) X e m) (hm : M1 X o "pop" ap e p2 := by exact ⟨rfl, rfl, rfl, rfl⟩)
    (hsw : swapsWith (.Call (.Attribute o "pop" ap) [e] [] p2) none pos.line X.env = pure false := by rfl) : SS K n X (.Expr (.Call (.Attribute o "pop" ap) [e] [] p2) pos) (sDPop i m) := by
  subst hK
  constructor
  · intro ρ E E' w _ _ _
    refine mo_own ρ _ _ fun d0 _ q => ⟨q.1, hv.mono ρ _ _ (fun dv ρ2 q => ?_) q.2⟩
    split at q
    · split at q
      · exact ⟨q.1, w _ q.2⟩
      · exact q.elim
    · exact q.elim
  · refine ps_weak (ps_expr (pe_popD (Room.u1 hr) ho hv.pe hm) hsw) fun T σ H ⟨G, ρ, E, R, q, w, _⟩ => ?_
    obtain ⟨x, d0, hx, vx, ⟨ps, rfl⟩, q⟩ := own_there R q
    refine ⟨_, hx, vw_isD R.gh vx, G, ρ, R, hv.mono ρ _ _ (fun dk ρ2 q y G2 H2 R2 l2 ry => ?_) q⟩
    split at q
    · rename_i zs e2
      split at q
      · rename_i kk e3
        obtain ⟨p2, ob, y1, y2, y3, y4⟩ := R2.own i _ e2
        rw [hx] at y1
        cases y1
        refine ⟨G2, p2, ob, zs, dk, kk, rfl, R2.gh, y2, y3, y4, ry, e3, q.1, fun v ob' r => ?_⟩
        obtain ⟨R3, l3⟩ := Rel.chg (n := n) R2 e2 hx r
        exact w σ G2 _ _ R3 (l2.up.trans l3) q.2
      · exact q.elim
    · exact q.elim
end
end Dl

set_option Elab.async false
set_option linter.all false
set_option maxRecDepth 100000
set_option maxHeartbeats 4000000
namespace Dl
open PySem PySem.Spec PyProof.Rows L2 Br
section
variable {K : PySem.W.Frag} {X : Cx} {a : Expr} {ma : ME} {pos : Pos}
/-! ### sorted, of pairs (text, number) -/
theorem perm_rps {G : Hp} {us' us : List V} (p : us'.Perm us) : ∀ {ds : List D}, RpAll K G us ds → ∃ ds', ds'.Perm ds ∧ RpAll K G us' ds' := by
  induction p with
  | nil => intro ds r; exact ⟨ds, .refl _, r⟩
  | cons x _ ih =>
    intro ds r
    cases r with
    | cons r rs =>
      obtain ⟨ds', p', r'⟩ := ih rs
      exact ⟨_ :: ds', p'.cons _, .cons r r'⟩
  | swap x y l =>
    intro ds r
    cases r with
    | cons r1 r2 => cases r2 with
      | cons r2 r3 => exact ⟨_ :: _ :: _, List.Perm.swap _ _ _, .cons r2 (.cons r1 r3)⟩
  | trans _ _ ih1 ih2 =>
    intro ds r
    obtain ⟨d1, p1, r1⟩ := ih2 r
    obtain ⟨d2, p2, r2⟩ := ih1 r1
    exact ⟨d2, p2.trans p1, r2⟩
def isPr : D → Bool
  | .tuple _ [.str _, .int _] => true
  | _ => false
def prOf : D → Str × Int
  | .tuple _ [.str x, .int i] => (x, i)
  | _ => (Str.empty, 0)
theorem isPr_at {d : D} (h : isPr d = true) : ∃ c x i, d = .tuple c [.str x, .int i] ∧ prOf d = (x, i) := by
  unfold isPr at h
  split at h
  · exact ⟨_, _, _, rfl, rfl⟩
  · cases h
theorem pr_name {G H : Hp} (g : Same G H) {v : V} {d : D} (r : Rp K G v d) (h : isPr d = true) : NameAt K H v (prOf d) := by
  obtain ⟨c, x, i, rfl, e⟩ := isPr_at h
  rw [e]
  obtain ⟨b, ys, rfl, sq, rr, _⟩ := rp_tup r
  obtain ⟨y, z, rfl, r1, r2⟩ := rps2 rr
  cases r1
  cases r2
  exact ⟨b, rfl, sqT_same g sq⟩
def oSorted_pairs : O1 := fun a k => match a with
  | .list ds => ds.all isPr = true ∧ ∀ ds' : List D, ds'.Perm ds → ds'.Pairwise (fun x y => ltN (prOf y) (prOf x) = false) → k (.list ds')
  | _ => False
theorem mo_sortedP : Mo1 oSorted_pairs := fun a k k' w h => by cases a <;> first | exact h.elim | exact ⟨h.1, fun ds' p q => w _ (h.2 ds' p q)⟩
theorem name_inj {pins : List (Addr × Obj)} {σ : L2.St} {H : Hp} {s : Shared} {v : V} {n m : Str × Int} (I : Inv X pins σ H s) (h : NameAt X.K H v n) (k : NameAt X.K H v m) : n = m := by
  obtain ⟨b, rfl, h⟩ := h
  obtain ⟨c, e, k⟩ := k
  cases e
  have := kVs_inj (I.tuple_inj h k)
  unfold nkeys at this
  cases n
  cases m
  simp at this
  rw [this.1, this.2]
theorem callr_sortedP : CallR X (.builtin "sorted") (fun xs H Q => ∃ x, xs = [x] ∧ rO1 X.K (pF X.K) oSorted_pairs x H Q) := by
  intro pins s σ H xs us Q I r h
  obtain ⟨x, rfl, G, d, g, hx, q⟩ := h
  cases d <;> first | exact q.elim | skip
  rename_i ds
  obtain ⟨p, vs, rfl, rd, ra⟩ := vw_list g hx
  obtain ⟨hall, q⟩ := q
  have nm : ∀ {vs : List V} {ds : List D}, RpAll X.K G vs ds → ds.all isPr = true → ∀ u ∈ vs, ∃ n, NameAt X.K H u n := by
    intro vs
    induction vs with
    | nil => intro ds _ _ u hu; cases hu
    | cons v vs ih =>
      intro ds r h u hu
      cases r with
      | cons r1 r2 =>
        rw [List.all_cons, Bool.and_eq_true] at h
        rcases List.mem_cons.mp hu with z | z
        · subst z; exact ⟨_, pr_name g r1 h.1⟩
        · exact ih r2 h.2 u z
  refine cr_sortedN pins s σ H _ us Q I r ⟨p, vs, nameOf X.K H, rfl, .inl rd, fun u hu => ?_, fun us' n pm pw nn => ?_⟩
  · obtain ⟨m, hm⟩ := nm ra hall u hu
    exact nameOf_at hm
  · obtain ⟨ds', pd, rs'⟩ := perm_rps pm ra
    have hall' : ds'.all isPr = true := List.all_eq_true.mpr fun d hd => List.all_eq_true.mp hall d (pd.mem_iff.mp hd)
    have mp : ∀ {vs : List V} {ds : List D}, RpAll X.K G vs ds → ds.all isPr = true → ds.map prOf = vs.map (nameOf X.K H) := by
      intro vs
      induction vs with
      | nil => intro ds r _; cases r; rfl
      | cons v vs ih =>
        intro ds r h
        cases r with
        | cons r1 r2 =>
          rw [List.all_cons, Bool.and_eq_true] at h
          have e := pr_name g r1 h.1
          rw [List.map_cons, List.map_cons, ih r2 h.2, name_inj I e (nameOf_at e)]
    have em := mp rs' hall'
    have pw1 : (us'.map (nameOf X.K H)).Pairwise (fun x y => ltN y x = false) := List.pairwise_map.mpr pw
    rw [← em] at pw1
    exact newF g (q ds' pd (List.pairwise_map.mp pw1)) nn (.lst rs')
theorem se_sorted_pairs {k : Nat} {p : Pos} (hK : X.K = K) (hr : Room k X.A) (hg : Gl X "sorted") (hm : X.mg "sorted" = none) (ha : SE K (fV K) X a ma) (hs : starEach [a] X.env = [(false, eval a X.env)] := by rfl) (hpl : (backTo pos (starEach [] X.env)).any (·.1) = false := by rfl) :
    SE K (fF K) X (.Call (.Name "sorted" p) [a] [] pos) (mUn oSorted_pairs ma) := by
  subst hK
  exact se_b1 (id := "sorted") callr_sortedP (fun y H Q h => ⟨y, rfl, h⟩) mo_sortedP embF hg hm (by decide +kernel) ha hs (by decide) (by decide) hpl
/-! ### repr of plain things -/
def showD : D → Option Str
  | .none => some "None"
  | .bool b => some (if b then "True" else "False")
  | .str x => some (PyData.shown (.str x))
  | .int i => if i.natAbs.log2 < 1920 then some (PyData.shown (.int i)) else none
  | _ => none
end
end Dl

set_option Elab.async false
set_option linter.all false
set_option maxRecDepth 100000
set_option maxHeartbeats 4000000
namespace Dl
open PySem PySem.Spec PyProof.Rows L2 Br
/-! ### dict(t) of a tuple of pairs -/
theorem tuple_keys_none : typeLookup (.type "tuple") "keys" = pure none := am_miss_of_fast (by first | decide +kernel | rfl)
section
variable {prog : Program} {w : World} {A : Around} {E : Value → Shared → Prop}
theorem miss_tuple {s : Shared} {a : Addr} {o : Obj} {xs : Array Value} {k : Nat} {Q : Option Value → Shared → Prop} (hx : s.heap.get? a = some o) (hc : o.cls = .type "tuple") (hdat : o.data = .seq xs k) (hd : o.dict = none) (hA : A.handled = none)
    (h : ∀ h' tk, (∀ b ob, s.heap.get? b = some ob → h'.get? b = some ob) → Q none { s with heap := h', toks := tk }) : wpAny (model prog w) A (getAttr? (.ref a) "keys") Q E s := by
  rcases o with ⟨c, dct, dat, sl⟩
  simp only at hc hdat hd
  subst hc hdat hd
  rcases s with ⟨hp, g, d, tk, os⟩
  have hT : ∀ tk', (⟨hp, g, d, tk', os⟩ : Shared).TypeIs (.ref a) "tuple" := fun _ => ⟨_, hx, rfl⟩
  have none_there := tuple_keys_none
  have other : (["__module__", "__name__", "__qualname__", "__doc__", "__annotations__"] : List Str).contains "keys" = false := by decide +kernel
  have room : ("keys" : Str).length + 100 ≤ sizeLine := by first | size_fits | decide +kernel
  have g1 := sub_AttributeError
  have g3 := PySem.F.slot_tuple_getattribute.lookup
  have g4 := PySem.F.slot_tuple_getattribute.bind (.ref a)
  have g5 := am_tuple_getattr_none
  unfold getAttr? getAttrBy? getAttrBy
  repeat (any_goals (first | assumption | exact hT _ | ((with_reducible show wpAny _ _ (call (Value.builtin "tuple.__getattribute__") _ _) _ _ _); refine call_meets PySem.F.slot_tuple_getattribute (hT _) am_entry_tuple_getattribute (PySem.F.args_tuple_getattribute_2 _ _) (meets_getattribute_miss_tuple a xs k sl "keys" _ none_there other room) ⟨hx, hA, fun h' tk' e hx' => ?_⟩) | wp_step))
  obtain ⟨t', u', he⟩ := hx'.there
  show wpAny _ _ (getattributeRaised _ _ _ _ _ _ _) _ _ _
  unfold getattributeRaised
  repeat (any_goals (first | assumption | wp_step))
  all_goals first | exact h _ _ hx'.keeps | (dsimp only; repeat (any_goals (first | assumption | exact h _ _ hx'.keeps | wp_step)))
/-- the pairs of a tuple, put one behind the other -/
theorem pairs_loop {R : Result → Shared → Prop} {S J l : Addr} {items : Array Value} {res : Value} (calm : A.handled = none) (nlJ : l ≠ J) (nSJ : S ≠ J) (nSl : S ≠ l) :
    ∀ (todo : List (Key × Value)) (i : Nat) (acc : List (Key × Value)) (ix : Int) (t : Tok) (s : Shared), items.size = i + todo.length → acc.length + todo.length ≤ sizeLine →
      (∀ (j : Nat) (q : Key × Value), todo[j]? = some q → ∃ (b : Addr) (u : Value), items[i + j]? = some (.ref b) ∧ b ≠ S ∧ b ≠ J ∧ IsTup s.heap b #[u, q.2] ∧ keyIs q.1 u = true) →
      s.heap.IsTupleIter J l i → s.heap.IsTuple l items → s.heap.DictOf (mixKind prog w) S acc →
      (∀ h' tk, h'.DictOf (mixKind prog w) S (merged acc todo) → (∀ b o, b ≠ S → b ≠ J → s.heap.get? b = some o → h'.get? b = some o) → R (.ok (.ret res)) { s with heap := h', toks := tk }) →
      codeAny (model prog w) A (.builtin "dict.update.loop" ⟨[.ref S, .ref J, .int ix t, res], []⟩) R s := by
  intro todo
  induction todo with
  | nil =>
    intro i acc ix t s size _ _ it lt dd fin
    refine codeAny_builtin ud_entry (?_ : _)
    rw [Around.under_plainId ud_plain]
    show wpAny _ A.in1 (pyNext (.ref J) >>= _) _ _ s
    have past : items[i]? = none := Array.getElem?_eq_none (by simp at size; omega)
    refine wpAny_bind (wpAny_pyNext_tuple_end (A := A.in1) calm it lt past fun h' ext => ?_)
    show wpAny _ A.in1 (Builtin.Dict.addKeywords S [] >>= _) _ _ (_ : Shared)
    refine wpAny_bind (wpAny_pure (wpAny_pure ?last))
    exact fin h' s.toks (dd.extBut ext nSJ) fun b o _ nb e => ext b o nb e
  | cons q todo ih =>
    intro i acc ix t s size room prs it lt dd fin
    obtain ⟨b, u, at_b, nbS, nbJ, tup_b, is_k⟩ := prs 0 q rfl
    rw [List.length_cons] at size room
    refine codeAny_builtin ud_entry (?_ : _)
    rw [Around.under_plainId ud_plain]
    show wpAny _ A.in1 (pyNext (.ref J) >>= _) _ _ s
    refine wpAny_bind (wpAny_pyNext_tuple_item (x := .ref b) it lt (by simpa using at_b) fun h1 it1 same1 => ?_)
    have tup1 : IsTup h1 b #[u, q.2] := tup_b.extBut same1.extBut nbJ
    have lt1 : h1.IsTuple l items := lt.extBut same1.extBut nlJ
    have dd1 : h1.DictOf (mixKind prog w) S acc := dd.extBut same1.extBut nSJ
    obtain ⟨o, at_o, cls_o, n, dat_o⟩ := id tup1
    show wpAny _ A.in1 (holding [Value.ref b] _ >>= _) _ _ (_ : Shared)
    refine wpAny_bind (wpAny_holding (wpAny_bind (wpAny_tryCatch ?_)))
    unfold Builtin.Dict.pairItems
    refine wpAny_bind (wpAny_typeOf (T := "tuple") ⟨o, at_o, cls_o⟩ ?_)
    rw [if_pos (by first | decide | rfl | simp)]
    refine wpAny_bind (wpAny_seqItems at_o dat_o (wpAny_pure ?_))
    show wpAny _ A.in1 (holding [u, q.2] (dictSet S u q.2)) _ _ (_ : Shared)
    refine wpAny_holding (wpAny_dictSet_pairs (knd := mixKind prog w) (k := q.1) is_k dd1 (fun h2 dd2 same2 => ?_) (by omega))
    have grow := stored_length_le acc q.1 q.2
    refine wpAny_pure ⟨plainId_quiet ud_plain _, ih (i + 1) (stored acc q.1 q.2) (ix + 1) 0 _ (by omega) (by omega) (fun j q' e => ?_) ?_ ?_ dd2 fun h' tk dd' keep => ?_⟩
    · obtain ⟨b', u', x1, x2, x3, x4, x5⟩ := prs (j + 1) q' (by simpa using e)
      exact ⟨b', u', by rw [show i + 1 + j = i + (j + 1) by omega]; exact x1, x2, x3, (x4.extBut same1.extBut x3).extBut same2.extBut x2, x5⟩
    · obtain ⟨o', y1, y2⟩ := it1
      exact ⟨o', same2.extBut J o' (Ne.symm nSJ) y1, y2⟩
    · exact lt1.extBut same2.extBut (Ne.symm nSl)
    · exact fin h' tk dd' fun c oc n1 n2 e => keep c oc n1 n2 (same2.extBut c oc n1 (same1.extBut c oc n2 e))
/-- dict(t) of a tuple of pairs -/
theorem call_dict_tup {s : Shared} {l : Addr} {ol : Obj} {items : Array Value} {n : Nat} {prs : List (Key × Value)} {Q : Value → Shared → Prop} (calm : A.handled = none) (at_l : s.heap.get? l = some ol) (cls : ol.cls = .type "tuple") (nod : ol.dict = none)
    (dat : ol.data = .seq items n) (size : items.size = prs.length) (room : prs.length ≤ sizeLine)
    (each : ∀ (j : Nat) (q : Key × Value), prs[j]? = some q → ∃ (b : Addr) (u : Value), items[j]? = some (.ref b) ∧ IsTup s.heap b #[u, q.2] ∧ keyIs q.1 u = true)
    (h : ∀ h' tk, h'.DictOf (mixKind prog w) s.heap.objs.size (merged [] prs) → (∀ b o, s.heap.get? b = some o → h'.get? b = some o) → Q (.ref s.heap.objs.size) { s with heap := h', toks := tk }) :
    wpAny (model prog w) A (call (.type "dict") [.ref l]) Q E s := by
  refine callType_codes (Q₁ := fun obj s₁ => obj = .ref s.heap.objs.size ∧ s₁ = { s with heap := s.heap.push { cls := .type "dict", data := .dict #[] } }) PySem.F.kt_called_dict (PySem.F.kt_typeCall_dict_1 _) PySem.F.entry_dict_init (kt_code_dict_new _ ⟨rfl, rfl⟩) fun obj s₁ e => ?_
  obtain ⟨rfl, rfl⟩ := e
  have new : (s.heap.push { cls := .type "dict", data := .dict #[] }).DictOf (mixKind prog w) s.heap.objs.size [] := Heap.DictOf.new s.heap
  have old : ∀ b o, s.heap.get? b = some o → (s.heap.push { cls := .type "dict", data := .dict #[] }).get? b = some o := fun b o z => Heap.get?_push_of_some _ z
  refine ⟨new.typeIs, PySem.F.args_dict_init_2 _ _, ?_⟩
  unfold Builtin.«dict.__init__» Builtin.Dict.selfAndRest
  refine wpAny_bind (wpAny_bind (wpAny_notOrdered_dict new.typeIs ?_))
  show wpAny _ _ (pure (s.heap.objs.size, [Value.ref l])) _ _ (_ : Shared)
  refine wpAny_pure ?_
  show wpAny _ _ (Builtin.Dict.updateFrom "dict.__init__" s.heap.objs.size (.ref l) [] .none) _ _ (_ : Shared)
  unfold Builtin.Dict.updateFrom
  refine wpAny_bind (wpAny_typeOf (T := "tuple") ⟨ol, old _ _ at_l, cls⟩ ?_)
  rw [if_pos (by first | decide | rfl | simp)]
  refine wpAny_bind (miss_tuple (old _ _ at_l) cls dat nod calm fun h1 tk1 k1 => ?_)
  rw [if_pos (show (none : Option Value).isNone = true from rfl)]
  have lt1 : h1.IsTuple l items := ⟨ol, k1 _ _ (old _ _ at_l), cls, n, dat⟩
  have mine : (s.heap.push { cls := .type "dict", data := .dict #[] }).get? s.heap.objs.size = some { cls := .type "dict", data := .dict #[] } := Heap.get?_push_size _ rfl
  have big : s.heap.objs.size < h1.objs.size := Heap.lt_size (k1 _ _ mine)
  refine wpAny_bind (wpAny_rule (wpAny_bind (wpAny_pyIter_tuple lt1 ?_)))
  have k2 : ∀ b o, h1.get? b = some o → (h1.push { cls := .type "tuple_iterator", data := .fields #[.ref l, .int 0 0] }).get? b = some o := fun b o z => Heap.get?_push_of_some _ z
  have low : l < s.heap.objs.size := Heap.lt_size at_l
  have run := pairs_loop (prog := prog) (w := w) (A := A.in1) (R := wants (fun r s₂ => r = .none ∧ Q (.ref s.heap.objs.size) s₂) E) (S := s.heap.objs.size) (J := h1.objs.size) (l := l) (items := items) (res := Value.none) calm
    (Nat.ne_of_lt (Nat.lt_trans low big)) (Nat.ne_of_lt big) (Nat.ne_of_gt low) prs 0 [] 0 0
    { s with heap := h1.push { cls := .type "tuple_iterator", data := .fields #[.ref l, .int 0 0] }, toks := tk1 } (by omega) (by simpa using room)
    (fun j q e => by
      obtain ⟨b, u, e1, e2, e3⟩ := each j q e
      have hb : b < s.heap.objs.size := e2.lt
      exact ⟨b, u, by rw [Nat.zero_add]; exact e1, Nat.ne_of_lt hb, Nat.ne_of_lt (Nat.lt_trans hb big), e2.keeps fun c o z => k2 _ _ (k1 _ _ (old _ _ z)), e3⟩)
    ⟨_, Heap.get?_push_size _ rfl, rfl, rfl⟩ (lt1.push _) ((new.at fun o e => k1 _ _ e).at fun o e => k2 _ _ e)
    (fun h' tk dd keep => ⟨rfl, h h' tk dd fun b o e => keep b o (Nat.ne_of_lt (Heap.lt_size e)) (Nat.ne_of_lt (Nat.lt_trans (Heap.lt_size e) big)) (k2 _ _ (k1 _ _ (old _ _ e)))⟩)
  first
    | exact wpAny_pure ⟨plainId_quiet ud_plain _, run⟩
    | exact wpAny_bind (wpAny_pure (wpAny_pure ⟨plainId_quiet ud_plain _, run⟩))
end
section
variable {K : PySem.W.Frag} {X : Cx} {a : Expr} {ma : ME} {pos : Pos}
/-- the pairs that a dict is made of: keys texts or numbers -/
def prs : List D → Option (List (Key × D))
  | [] => some []
  | .tuple _ [k, v] :: r => match keyOf k, prs r with
    | some q, some rs => some ((q, v) :: rs)
    | _, _ => none
  | _ => none
def mergeD (acc : List (D × D)) (more : List (Key × D)) : List (D × D) := more.foldl (fun acc kv => putKs acc (.inl kv.1) (keyD kv.1) kv.2) acc
def oDict_pairs : O1 := fun a k => match a with
  | .list ds => match prs ds with
    | some ps => k (.dict (mergeD [] ps))
    | none => False
  | .tuple .frz ds => match prs ds with
    | some ps => k (.dict (mergeD [] ps))
    | none => False
  | _ => False
theorem mo_dictP : Mo1 oDict_pairs := fun a k k' w h => by
  unfold oDict_pairs at h ⊢
  split at h
  · split at h
    · exact w _ h
    · exact h.elim
  · split at h
    · exact w _ h
    · exact h.elim
  · exact h.elim
theorem prs_V {G H : Hp} (g : Same G H) : ∀ {vs : List V} {ds : List D} {ps : List (Key × D)}, RpAll K G vs ds → prs ds = some ps → ∃ (as : List Addr) (kvs : List (Key × V)), vs = as.map V.ref ∧ Paired (fun p kv => SqT K H p [kV kv.1, kv.2]) as kvs ∧ kvs.map (·.1) = ps.map (·.1) ∧ RpAll K G (kvs.map (·.2)) (ps.map (·.2))
  | _, _, _, .nil, h => by
    cases h
    exact ⟨[], [], rfl, .nil, rfl, .nil⟩
  | _, _, _, .cons (d := d) r rs, h => by
    unfold prs at h
    split at h
    · rename_i e; cases e
    · rename_i c k v r' e
      cases e
      split at h
      · rename_i q rs' e1 e2
        cases h
        obtain ⟨as, kvs, h1, h2, h3, h4⟩ := prs_V g rs e2
        have ek := keyOf_inv e1
        subst ek
        obtain ⟨b, ys, rfl, sq, ry, _⟩ := rp_tup r
        obtain ⟨x, y, rfl, r1, r2⟩ := rps2 ry
        have ex := key_val (H := H) (.fro r1)
        subst ex
        exact ⟨b :: as, (q, y) :: kvs, by rw [h1]; rfl, .cons (sqT_same g sq) h2, by rw [List.map_cons, List.map_cons, h3], .cons r2 h4⟩
      · cases h
    · cases h
theorem merge_ob {G : Hp} : ∀ {kvs : List (Key × V)} {ps : List (Key × D)} {acc : List (Key × V)} {dcc : List (D × D)}, kvs.map (·.1) = ps.map (·.1) → RpAll K G (kvs.map (·.2)) (ps.map (·.2)) → ObR K G (.dK acc) (.dict dcc) → ObR K G (.dK (mergeK acc kvs)) (.dict (mergeD dcc ps))
  | [], [], _, _, _, _, o => o
  | [], _ :: _, _, _, h, _, _ => by cases h
  | _ :: _, [], _, _, h, _, _ => by cases h
  | (k, v) :: kvs, (q, d) :: ps, acc, dcc, h, r, o => by
    have e1 : k = q := (List.cons.inj h).1
    subst e1
    cases r with
    | cons r1 r2 =>
      refine merge_ob (acc := putK acc k v) (dcc := putKs dcc (.inl k) (keyD k) d) (List.cons.inj h).2 r2 ?_
      generalize eo : HO.dK acc = ob at o
      generalize ed : D.dict dcc = dd at o
      cases o with
      | lst _ => cases eo
      | dT _ _ => cases eo
      | dK hl ra =>
        cases eo
        cases ed
        exact put_K hl ra r1
theorem callr_dictP (hc : X.calm = true) : CallR X (.type "dict") (fun xs H Q => ∃ x, xs = [x] ∧ rO1 X.K (pF X.K) oDict_pairs x H Q) := by
  intro pins s σ H xs us Q I r h
  obtain ⟨x, rfl, G, d, g, hx, q⟩ := h
  unfold oDict_pairs at q
  split at q
  · rename_i ds
    split at q
    · rename_i ps e
      obtain ⟨p, vs, rfl, rd, ra⟩ := vw_list g hx
      obtain ⟨as, kvs, h1, h2, h3, h4⟩ := prs_V g ra e
      subst h1
      exact call_dictP hc pins s σ H _ us Q I r ⟨p, as, kvs, rfl, .inl rd, h2, fun n nn => newF g q nn (merge_ob h3 h4 (.dK (ks := []) (xs := []) (ds := []) rfl .nil))⟩
    · exact q.elim
  · rename_i ds
    split at q
    · rename_i ps e
      have hr : ∃ p o ys, x = .ref p ∧ G p = some (.frz o (.tup ys)) ∧ o.dict = none ∧ RpAll X.K G ys ds := by
        cases hx with
        | fro r0 => cases r0 with
          | tupZ s0 n0 a0 => exact ⟨_, _, _, rfl, s0, n0, a0⟩
        | own _ r0 => cases r0
      obtain ⟨p, o, ys, rfl, sz, nod, ra⟩ := hr
      obtain ⟨as, kvs, h1, h2, h3, h4⟩ := prs_V g ra e
      subst h1
      obtain ⟨u, rfl, rx⟩ := vals1 r
      cases rx
      obtain ⟨at_o, z, its, rv, o', ho', hc', n, hd'⟩ := (show ObjOk X.prog X.w H s.heap p (.frz o (.tup (as.map V.ref))) from I.hok _ _ (g _ _ sz))
      rw [at_o] at ho'
      cases ho'
      have ei := refs_at rv
      subst ei
      obtain ⟨prs', rel, hl, hpr⟩ := pairs_of I h2
      rw [List.length_map] at z
      refine call_dict_tup (prs := prs') (I.ok.hd hc) at_o hc' nod hd' (by simp [hl]) (by rw [hl]; exact z) (fun j q' e' => ?_) fun h' tk dd keep => ?_
      · obtain ⟨b, u, e1, e2, e3⟩ := hpr j q' e'
        exact ⟨b, u, by simp [e1], e2, e3⟩
      · have big : (s.heap.objs.size == sysModules) = false := beq_eq_false_iff_ne.mpr (Nat.ne_of_gt I.big)
        have len : (mergeK [] kvs).length ≤ sizeLine := Nat.le_trans (length_mergeK kvs []) (by rw [List.length_nil, Nat.zero_add, rel.length, hl]; exact z)
        exact ⟨.ref s.heap.objs.size, upd H s.heap.objs.size (.dK (mergeK [] kvs)), I.laid (t' := tk) keep (Nat.le_refl _) (show ObjOk X.prog X.w _ _ _ (.dK (mergeK [] kvs)) from ⟨len, big, merged [] prs', KV.merge rel .nil, dd⟩), rfl, newF g q (I.hok.fresh (Nat.le_refl _)) (merge_ob h3 h4 (.dK (ks := []) (xs := []) (ds := []) rfl .nil))⟩
    · exact q.elim
  · exact q.elim
theorem se_dict_pairs {p : Pos} (hK : X.K = K) (hc : X.calm = true) (hg : Gl X "dict") (hm : X.mg "dict" = none) (ha : SE K (fV K) X a ma) (hs : starEach [a] X.env = [(false, eval a X.env)] := by rfl) (hpl : (backTo pos (starEach [] X.env)).any (·.1) = false := by rfl) :
    SE K (fF K) X (.Call (.Name "dict" p) [a] [] pos) (mUn oDict_pairs ma) := by
  subst hK
  exact se_t1 (T := "dict") (callr_dictP hc) (fun y H Q h => ⟨y, rfl, h⟩) mo_dictP embF hg hm (by decide +kernel) ha hs (by decide) (by decide) hpl
end
end Dl

set_option Elab.async false
set_option linter.all false
set_option maxRecDepth 100000
set_option maxHeartbeats 4000000
namespace Dl
open PySem PySem.Spec PyProof.Rows L2 Br
section
variable {K : PySem.W.Frag} {X : Cx} {a b : Expr} {ma mb : ME} {pos : Pos} {H : Hp}
/-! ### repr -/
mutual
theorem rp_nd' : ∀ (d : D) (v : V), Rp K H v d → (toPy d).hasDict = false → Dp K H v (toPy d)
  | .none, _, .non, _ => .non
  | .bool _, _, .bl b, _ => .bl b
  | .int _, _, .int i, _ => .int i
  | .str _, _, .str x, _ => .str x
  | .list ds, _, .lst s a, h => .lst (.inl s) (rps_nd' ds _ a h)
  | .tuple .mad ds, _, .tup s a, h => .tup (SqT.of s) (rps_nd' ds _ a h)
  | .tuple .wri ds, _, .tupC s a, h => .tup s (rps_nd' ds _ a h)
  | .tuple .frz ds, _, .tupZ s _ a, h => .tup (.inl (.inr ⟨_, s⟩)) (rps_nd' ds _ a h)
  | .dict _, _, _, h => (Bool.noConfusion h)
  | .scr _, _, _, h => (Bool.noConfusion h)
theorem rps_nd' : ∀ (ds : List D) (vs : List V), RpAll K H vs ds → PyData.hasDictAll (toPys ds) = false → DpAll K H vs (toPys ds)
  | [], _, .nil, _ => .nil
  | d :: ds, _, .cons x r, h => .cons (rp_nd' d _ x (Bool.or_eq_false_iff.mp h).1) (rps_nd' ds _ r (Bool.or_eq_false_iff.mp h).2)
end
def oRepr : O1 := fun d k => (toPy d).showable = true ∧ (toPy d).hasDict = false ∧ (toPy d).depth ≤ 60 ∧ (toPy d).shown.length ≤ sizeLine ∧ k (.str (toPy d).shown)
theorem mo_repr : Mo1 oRepr := fun a k k' w h => ⟨h.1, h.2.1, h.2.2.1, h.2.2.2.1, w _ h.2.2.2.2⟩
theorem callr_repr (hu : X.A.units + 64 < cLine) (hG : Bare X.A) : CallR X (.builtin "repr") (fun xs H Q => ∃ x, xs = [x] ∧ rO1 X.K (pE X.K) oRepr x H Q) := by
  intro pins s σ H xs us Q I r h
  obtain ⟨x, rfl, G, d, g, hx, h1, h2, h3, h4, q⟩ := h
  have rx := vw_rp g hx
  have fin : Q (.str (toPy d).shown) H := stay g q (.str _)
  cases d with
  | none =>
    cases rx
    obtain ⟨u, rfl, e⟩ := vals1 r
    cases e
    exact PySem.P.repr_of_none ⟨.str _, H, I.tok _, ⟨_, rfl⟩, fin⟩
  | bool b =>
    cases rx
    obtain ⟨u, rfl, e⟩ := vals1 r
    cases e
    exact PySem.P.repr_of_bool ⟨.str _, H, I.tok _, ⟨_, rfl⟩, fin⟩
  | int i =>
    cases rx
    obtain ⟨u, rfl, t, rfl⟩ := vals1 r
    exact PySem.P.repr_of_int (of_decide_eq_true h1) ⟨.str _, H, I.tok _, ⟨_, rfl⟩, fin⟩
  | str z =>
    cases rx
    obtain ⟨u, rfl, t, rfl⟩ := vals1 r
    exact PySem.P.repr_of_str ⟨.str _, H, I.tok _, ⟨_, rfl⟩, fin⟩ h4
  | list ds =>
    have dp := rp_nd' _ _ rx h2
    cases rx with
    | lst _ _ => exact call_reprD hu hG pins s σ H _ us Q I r ⟨_, _, rfl, dp, h1, h2, h3, h4, fin⟩
  | tuple c ds =>
    have dp := rp_nd' _ _ rx h2
    obtain ⟨p, ys, rfl, _⟩ := rp_tup rx
    exact call_reprD hu hG pins s σ H _ us Q I r ⟨_, _, rfl, dp, h1, h2, h3, h4, fin⟩
  | dict _ => cases h2
  | scr _ => cases h2
theorem se_repr {k : Nat} {p : Pos} (hK : X.K = K) (hG : Bare X.A) (hr : Room k X.A) (hg : Gl X "repr") (hm : X.mg "repr" = none) (ha : SE K (fV K) X a ma) (hs : starEach [a] X.env = [(false, eval a X.env)] := by rfl) (hpl : (backTo pos (starEach [] X.env)).any (·.1) = false := by rfl) :
    SE K (fE K) X (.Call (.Name "repr" p) [a] [] pos) (mUn oRepr ma) := by
  subst hK
  exact se_b1 (id := "repr") (callr_repr hr.units hG) (fun y H Q h => ⟨y, rfl, h⟩) mo_repr embE hg hm (by decide +kernel) ha hs (by decide) (by decide) hpl
/-! ### d == {}, d != {} -/
def oDE (neg : Bool) : O2 := fun a b k => match a, b with
  | .dict ps, .dict [] => k (.bool (ps.isEmpty != neg))
  | _, _ => False
theorem mo_DE {neg : Bool} : Mo2 (oDE neg) := fun a b k k' w h => by
  unfold oDE at h ⊢
  split at h
  · exact w _ h
  · exact h.elim
/-- a dict as it lies -/
def RawD (s : Shared) (p : Addr) (n : Nat) : Prop := (p == sysModules) = false ∧ ∃ o es ep, s.heap.get? p = some o ∧ o.ExactDict ∧ o.data = .dict es ep ∧ es.size = n
theorem raw_of {pins : List (Addr × Obj)} {σ : L2.St} {G : Hp} {s : Shared} {x : V} {ps : List (D × D)} (I : Inv X pins σ H s) (g : Same G H) (h : Vw X.K G H x (.dict ps)) : ∃ p, x = .ref p ∧ RawD s p ps.length := by
  obtain ⟨p, e, c⟩ := vw_dict g h
  refine ⟨p, e, ?_⟩
  rcases c with ⟨ks, xs, ds, rd, hl, ra, rfl⟩ | ⟨ks, xs, ds, rd, hl, ra, rfl⟩
  · obtain ⟨_, hd, vs, rel, o, es, ep, h1, h2, h3, h4, h5, h6⟩ := dk_rd I.hok rd
    refine ⟨hd, o, es, ep, h1, h2, h3, ?_⟩
    have e1 := h5.length
    have e2 := rel.length
    have e3 := rps_len ra
    rw [Array.length_toList] at e1
    simp at e2 ⊢
    omega
  · obtain ⟨_, hd, zs, rel, o, es, ep, h1, h2, h3, h4, h5⟩ := dt_rd I.hok rd
    refine ⟨hd, o, es, ep, h1, h2, h3, ?_⟩
    have e1 := size_of_entries h4
    have e2 := Paired.length rel
    have e3 := rps_len ra
    simp at e2 ⊢
    omega
theorem RawD.typeIs {s : Shared} {p : Addr} {n : Nat} (h : RawD s p n) : s.TypeIs (.ref p) "dict" := let ⟨_, o, _, _, e, c, _⟩ := h; ⟨o, e, c.1⟩
theorem same_pairs {prog : Program} {w : World} {A : Around} {E : Value → Shared → Prop} {s : Shared} {p q : Addr} {n : Nat} {nm : String} {Q : Bool → Shared → Prop} (hp : RawD s p n) (hq : RawD s q 0) (h : Q (n == 0) s) : wpAny (model prog w) A (Builtin.Dict.samePairs nm p q) Q E s := by
  obtain ⟨a1, oa, es, ep, a2, _, a3, a4⟩ := hp
  obtain ⟨b1, ob, es', ep', b2, _, b3, b4⟩ := hq
  unfold Builtin.Dict.samePairs Builtin.Dict.showsAll
  rw [if_neg (by rw [a1]; exact Bool.false_ne_true), if_neg (by rw [b1]; exact Bool.false_ne_true)]
  refine wpAny_bind (wpAny_pure (wpAny_bind (wpAny_pure (wpAny_bind (wpAny_dictEntries a2 a3 ?_)))))
  dsimp only
  refine wpAny_bind (wpAny_dictEntries b2 b3 ?_)
  by_cases hz : n = 0
  · subst hz
    rw [if_neg (by rw [a4, b4]; simp)]
    refine wpAny_bind (wpAny_dictEpoch a2 a3 (wpAny_bind ?_))
    rw [Std.Legacy.Range.forIn_eq_forIn_range']
    simp only [Std.Legacy.Range.size, Nat.sub_zero, Nat.add_sub_cancel, Nat.div_one, a4]
    exact wpAny_pure (wpAny_pure h)
  · rw [if_pos (by rw [a4, b4]; simpa using hz)]
    have e : (n == 0) = false := by simpa using hz
    rw [e] at h
    exact wpAny_bind (wpAny_rule (wpAny_pure h))
theorem raw_eq {prog : Program} {w : World} {A : Around} {E : Value → Shared → Prop} {s : Shared} {p q : Addr} {n : Nat} {Q : Value → Shared → Prop} (hp : RawD s p n) (hq : RawD s q 0) (hu : A.units < cLine) (h : Q (.bool (n == 0)) s) : wpAny (model prog w) A (compareOp .Eq (.ref p) (.ref q)) Q E s := by
  refine wpAny_richCompare_same_room (op := .Eq) hp.typeIs hq.typeIs PySem.F.slot_dict_eq (wpAny_call_entry PySem.F.slot_dict_eq hp.typeIs PySem.F.entry_dict_eq ?body (PySem.F.args_dict_eq_2 _ _)) hu
  show wpAny _ _ (Builtin.Dict.dictSlotArgs "__eq__" ⟨[.ref p, .ref q], []⟩ >>= _) _ _ s
  unfold Builtin.Dict.dictSlotArgs
  refine wpAny_bind (wpAny_bind (wpAny_notOrdered_dict hp.typeIs ?_))
  show wpAny _ _ (pure (Value.ref p, Value.ref q)) _ _ s
  refine wpAny_pure (wpAny_bind (wpAny_isInstance (T := "dict") hq.typeIs PySem.F.sub_dict_dict ?_))
  simp only [Bool.not_true, Bool.false_eq_true, if_false]
  refine wpAny_bind (wpAny_pure (wpAny_bind (wpAny_pure (wpAny_bind (same_pairs hp hq ?_)))))
  exact wpAny_pure ⟨_, rfl, (by intro x; cases x), by simpa using h⟩
theorem raw_ne {prog : Program} {w : World} {A : Around} {E : Value → Shared → Prop} {s : Shared} {p q : Addr} {n : Nat} {Q : Value → Shared → Prop} (hp : RawD s p n) (hq : RawD s q 0) (hu : A.units < cLine) (h : Q (.bool (!(n == 0))) s) : wpAny (model prog w) A (compareOp .NotEq (.ref p) (.ref q)) Q E s := by
  refine wpAny_richCompare_same_room (op := .NotEq) hp.typeIs hq.typeIs PySem.F.slot_dict_ne (wpAny_call_entry PySem.F.slot_dict_ne hp.typeIs PySem.F.entry_dict_ne ?body (PySem.F.args_dict_ne_2 _ _)) hu
  show wpAny _ _ (Builtin.Dict.dictSlotArgs "__ne__" ⟨[.ref p, .ref q], []⟩ >>= _) _ _ s
  unfold Builtin.Dict.dictSlotArgs
  refine wpAny_bind (wpAny_bind (wpAny_notOrdered_dict hp.typeIs ?_))
  show wpAny _ _ (pure (Value.ref p, Value.ref q)) _ _ s
  refine wpAny_pure (wpAny_bind (wpAny_isInstance (T := "dict") hq.typeIs PySem.F.sub_dict_dict ?_))
  simp only [Bool.not_true, Bool.false_eq_true, if_false]
  refine wpAny_bind (wpAny_pure (wpAny_bind (wpAny_pure (wpAny_bind (same_pairs hp hq ?_)))))
  exact wpAny_pure ⟨_, rfl, (by intro x; cases x), by simpa using h⟩
theorem emp_len {α : Type} (l : List α) : (l.length == 0) = l.isEmpty := by cases l <;> rfl
theorem c_deq (hK : X.K = K) (hu : X.A.units < cLine) : Cmp K X .Eq (oDE false) := by
  subst hK
  refine ⟨mo_DE, fun pins s σ H x y v u Q I rx ry h => ?_⟩
  obtain ⟨G, a, b, g, hx, hy, q⟩ := h
  unfold oDE at q
  split at q
  · obtain ⟨p, rfl, r1⟩ := raw_of I g hx
    obtain ⟨p2, rfl, r2⟩ := raw_of I g hy
    cases rx
    cases ry
    rw [xor_f, ← emp_len] at q
    exact raw_eq r1 r2 hu ⟨.bl _, H, I, rfl, stay g q (.bl _)⟩
  · exact q.elim
theorem c_dne (hK : X.K = K) (hu : X.A.units < cLine) : Cmp K X .NotEq (oDE true) := by
  subst hK
  refine ⟨mo_DE, fun pins s σ H x y v u Q I rx ry h => ?_⟩
  obtain ⟨G, a, b, g, hx, hy, q⟩ := h
  unfold oDE at q
  split at q
  · obtain ⟨p, rfl, r1⟩ := raw_of I g hx
    obtain ⟨p2, rfl, r2⟩ := raw_of I g hy
    cases rx
    cases ry
    rw [xor_t, ← emp_len] at q
    exact raw_ne r1 r2 hu ⟨.bl _, H, I, rfl, stay g q (.bl _)⟩
  · exact q.elim
/-! ### what is never come to -/
def mNever : MS := fun _ _ => False
theorem ss_never {n : Nat} {st : Stmt} : SS K n X st mNever := ⟨fun _ _ _ _ _ _ _ h => h, ps_weak ps_never fun T σ H ⟨_, _, _, _, q, _⟩ => q.elim⟩
end
end Dl

set_option Elab.async false
set_option linter.all false
set_option maxRecDepth 100000
set_option maxHeartbeats 4000000
namespace Dl
open PySem PySem.Spec PyProof.Rows L2 Br
section
variable {K : PySem.W.Frag} {X : Cx} {a b c : Expr} {ma mb mc : ME} {pos : Pos}
/-! ### {k: v} -/
def mDisp1 (ma mb : ME) : ME := fun ρ k => ma ρ fun da ρ1 => mb ρ1 fun db ρ2 => match keyOf da with
  | some q => k (.dict [(keyD q, db)]) ρ2
  | none => False
theorem se_disp1 (ha : SE K (fE K) X a ma) (hb : SE K (fE K) X b mb) : SE K (fF K) X (.Dict [some a] [b] pos) (mDisp1 ma mb) := by
  constructor
  · intro ρ k k' w
    refine ha.mono ρ _ _ fun da ρ1 => hb.mono ρ1 _ _ fun db ρ2 q => ?_
    split at q
    · exact w _ _ q
    · exact q.elim
  · refine pe_weak (pe_disp (pps_cons ha.pe hb.pe pps_nil) rfl rfl (by simp) (by simp)) fun σ H Q ⟨G, ρ, R, q⟩ p np => ?_
    have gp : G p = none := R.gh.free np
    have nw : ¬ Ow σ ρ p := fun w => R.old w np
    have R0 := R.poke (o := .dK []) gp nw
    have l0 : Lk 0 σ G H ρ σ G (upd H p (.dK [])) ρ := Lk.refl.poke np
    refine ⟨G, ρ, R0, ha.mono ρ _ _ (fun da ρ1 q x G1 H1 R1 l1 rx => ⟨G1, ρ1, R1, hb.mono ρ1 _ _ (fun db ρ2 q y G2 H2 R2 l2 ry => ?_) q⟩) q⟩
    have l12 := l1.trans l2
    have hp2 : H2 p = some (.dK []) := l12.st.hh p _ nw upd_same
    have gp2 : G2 p = none := l12.st.fr p _ nw upd_same gp rfl
    have nw2 : ¬ Ow σ ρ2 p := fun w => by
      rcases l12.sb p w with z | z
      · exact nw z
      · rw [upd_same] at z; cases z
    split at q
    · rename_i k e
      have ed := keyOf_inv e
      rw [ed] at rx
      have ex := key_val (H := H1) (.fro rx)
      subst ex
      refine ⟨hp2, [(k, y)], rfl, by simp, ?_⟩
      refine q _ G2 _ (R2.poke gp2 nw2) ((l0.trans l12).poke np) ⟨p, _, rfl, np, nw2, upd_same, gp2, ?_⟩
      exact .dK (ks := [k]) (xs := [y]) (ds := [db]) rfl (.cons ry .nil)
    · exact q.elim
/-! ### a < b < c -/
theorem t_chain {o o' : O2} {r r' : R2} (h : Op2 K (pE K) r o) (h' : Op2 K (pE K) r' o') (ha : SE K (fE K) X a ma) (hb : SE K (fE K) X b mb) (hc : SE K (fV K) X c mc) (σ : L2.St) (H : Hp) (Q : VK) (q : tE K (fE K) (mChain o o' ma mb mc) σ H Q) :
    tChain r r' (tE K (fE K) ma) (tE K (fE K) mb) (tE K (fV K) mc) σ H Q := by
  obtain ⟨G, ρ, R, q⟩ := q
  refine ⟨G, ρ, R, ha.mono ρ _ _ (fun da ρ1 q x G1 H1 R1 l1 rx => ⟨G1, ρ1, R1, hb.mono ρ1 _ _ (fun db ρ2 q y G2 H2 R2 l2 ry => ?_) q⟩) q⟩
  refine h.run G2 H2 x y da db _ R2.gh (vw_of rx l2) (.fro ry) (h.mono _ _ _ _ (fun d q v G3 H3 gh st pv => ?_) q)
  have R3 := R2.pure st gh
  have l3 := (l1.trans l2).trans (Lk.pure (n := 0) (ρ := ρ2) (σ := σ) st)
  rcases d with _ | (_ | _) | _ | _ | _ | _ | _ | _
  all_goals first | exact q.elim | skip
  · cases pv
    exact ⟨false, rfl, (by first | exact iteF (q _ G3 H3 R3 l3 (.bl false)) | exact q _ G3 H3 R3 l3 (.bl false))⟩
  · cases pv
    refine ⟨true, rfl, ?_⟩
    have go : (tE K (fV K) mc) σ H3 fun z H4 => r' y z H4 Q := by
      refine ⟨G3, ρ2, R3, hc.mono ρ2 _ _ (fun dc ρ3 q z G4 H4 R4 l4 rz => ?_) q⟩
      exact h'.run G4 H4 y z db dc _ R4.gh (.fro (rp_same l4.st.gg (rp_same st.gg ry))) rz (h'.mono _ _ _ _ (fun e q v G5 H5 gh5 st5 pv5 => q v G5 H5 (R4.pure st5 gh5) ((l3.trans l4).trans (.pure st5)) pv5) q)
    first | exact iteT go | exact go
theorem mo_chain {o o' : O2} (h : Mo2 o) (h' : Mo2 o') (ha : Mo ma) (hb : Mo mb) (hc : Mo mc) : Mo (mChain o o' ma mb mc) := fun ρ k k' w => ha ρ _ _ fun da ρ1 => hb ρ1 _ _ fun db ρ2 => h _ _ _ _ fun d q => by
  rcases d with _ | (_ | _) | _ | _ | _ | _ | _ | _
  all_goals first | exact q.elim | exact w _ _ q | exact hc ρ2 _ _ (fun dc ρ3 => h' _ _ _ _ fun e => w e ρ3) q
theorem se_chain {op op' : CmpOp} {o o' : O2} (h : Cmp K X op o) (h' : Cmp K X op' o') (ha : SE K (fE K) X a ma) (hb : SE K (fE K) X b mb) (hc : SE K (fV K) X c mc) (hm : lastMarks [op, op'] [b, c] = false := by with_unfolding_all rfl) : SE K (fE K) X (.Compare a [op, op'] [b, c] pos) (mChain o o' ma mb mc) :=
  ⟨mo_chain h.mo h'.mo ha.mono hb.mono hc.mono, pe_weak (pe_chain h.opr h'.opr ha.pe hb.pe hc.pe hm) (t_chain (op2_of h.mo) (op2_of h'.mo) ha hb hc)⟩
theorem st_chain {op op' : CmpOp} {o o' : O2} (h : Cmp K X op o) (h' : Cmp K X op' o') (ha : SE K (fE K) X a ma) (hb : SE K (fE K) X b mb) (hc : SE K (fV K) X c mc) (hm : lastMarks [op, op'] [b, c] = false := by with_unfolding_all rfl) : ST K X (.Compare a [op, op'] [b, c] pos) (mTest (mChain o o' ma mb mc)) := by
  have mo := mo_chain h.mo h'.mo ha.mono hb.mono hc.mono
  refine ⟨mo_test mo, pt_weak (pt_chain h.opr h'.opr ha.pe hb.pe hc.pe hm) fun σ H Q ⟨G, ρ, R, q⟩ => ?_⟩
  refine t_chain (op2_of h.mo) (op2_of h'.mo) ha hb hc σ H _ ⟨G, ρ, R, mo ρ _ _ (fun d ρ1 q v G1 H1 R1 l r => ?_) q⟩
  cases d with
  | bool b =>
    cases r
    exact ⟨b, rfl, q G1 H1 R1 l⟩
  | _ => exact q.elim
end
end Dl

set_option Elab.async false
set_option linter.all false
set_option maxRecDepth 100000
set_option maxHeartbeats 4000000
/-! The end of a law by data: its script is a cell of its own. -/
namespace Dl
open PySem PySem.Spec PyProof.Rows L2 Br
theorem rel_scr {K : PySem.W.Frag} {H : Hp} {a : Addr} {xs : List Int} (hS : SqL K H a (xs.map V.int)) : Rel K [some (.ref a)] H H [.fro (.scr xs)] := by
  refine ⟨Same.refl H, rfl, fun i d e => ?_, fun i d e => ?_, fun i j p d c e => ?_⟩
  · match i, e with
    | 0, e => cases e; exact ⟨_, rfl, .scr hS⟩
  · match i, e with
    | 0, e => cases e
  · match i, e with
    | 0, e => cases e
theorem dl_true {K : PySem.W.Frag} {G : Hp} {v : V} (r : Rp K G v (.bool true)) : v = .bl true := by cases r; rfl
theorem law_end {K : PySem.W.Frag} {H : Hp} {a : Addr} {xs : List Int} {F : Fs} (hS : SqL K H a (xs.map V.int)) (h : F [.fro (.scr xs)] fun d _ => ∀ (v : V) (G' : Hp), Rp K G' v d → v = .bl true) (mo : ∀ cs (k k' : D → List Cell → Prop), (∀ d cs', k d cs' → k' d cs') → F cs k → F cs k') : spD K 1 0 F [.ref a] H (fun v _ => v = .bl true) fun _ _ _ => False :=
  ⟨rfl, H, _, rel_scr hS, mo _ _ _ (fun d _ z v G' _ _ _ _ r => z v G' r) h⟩
end Dl

set_option Elab.async false
set_option linter.all false
set_option maxRecDepth 100000
set_option maxHeartbeats 4000000
/-! Dicts that are walked: such a dict is known as it lies while it is walked. -/
namespace Dl
open PySem PySem.Spec PyProof.Rows L2 Br
def isFrz : HO → Bool
  | .frz _ _ => true
  | _ => false
def isDic : HO → Bool
  | .dK _ => true
  | .dT _ => true
  | _ => false
/-- the same data, but that some dicts are known as they lie, or not any more -/
structure Sw (G G' : Hp) : Prop where
  rd : ∀ b u, isFrz u = false → Rd G b u → Rd G' b u
  tp : ∀ b xs, G b = some (.tup xs) → G' b = some (.tup xs)
  tz : ∀ b o xs, G b = some (.frz o (.tup xs)) → G' b = some (.frz o (.tup xs))
section
variable {K : PySem.W.Frag} {G G' : Hp}
mutual
theorem rp_sw (e : Sw G G') : ∀ {v : V} {d : D}, Rp K G v d → Rp K G' v d
  | _, _, .non => .non
  | _, _, .bl b => .bl b
  | _, _, .int i => .int i
  | _, _, .str x => .str x
  | _, _, .lst s a => .lst (e.rd _ _ rfl s) (rps_sw e a)
  | _, _, .tup s a => .tup (e.tp _ _ s) (rps_sw e a)
  | _, _, .tupC s a => .tupC (s.imp (e.rd _ _ rfl) id) (rps_sw e a)
  | _, _, .tupZ s n a => .tupZ (e.tz _ _ _ s) n (rps_sw e a)
  | _, _, .scr s => .scr (s.imp (e.rd _ _ rfl) id)
  | _, _, .dK s l a => .dK (e.rd _ _ rfl s) l (rps_sw e a)
  | _, _, .dT s l a => .dT (e.rd _ _ rfl s) l (rps_sw e a)
theorem rps_sw (e : Sw G G') : ∀ {vs : List V} {ds : List D}, RpAll K G vs ds → RpAll K G' vs ds
  | _, _, .nil => .nil
  | _, _, .cons x r => .cons (rp_sw e x) (rps_sw e r)
end
theorem ob_sw (e : Sw G G') {o : HO} {d : D} (h : ObR K G o d) : ObR K G' o d := by
  cases h with
  | lst a => exact .lst (rps_sw e a)
  | dK l a => exact .dK l (rps_sw e a)
  | dT l a => exact .dT l (rps_sw e a)
theorem sw_lock {a : Addr} {u : HO} {od : Obj} (h : G a = some u) (hd : isDic u = true) : Sw G (upd G a (.frz od u)) := by
  refine ⟨fun b u' _ r => ?_, fun b xs e => ?_, fun b o xs e => ?_⟩
  · by_cases z : b = a
    · subst z
      rcases r with r | ⟨o, r⟩
      · rw [h] at r; cases r; exact .inr ⟨od, upd_same⟩
      · rw [h] at r; cases r; cases hd
    · exact r.imp (fun q => (upd_ne z).trans q) fun ⟨o, q⟩ => ⟨o, (upd_ne z).trans q⟩
  · by_cases z : b = a
    · subst z; rw [h] at e; cases e; cases hd
    · exact (upd_ne z).trans e
  · by_cases z : b = a
    · subst z; rw [h] at e; cases e; cases hd
    · exact (upd_ne z).trans e
theorem sw_unlock {a : Addr} {u : HO} {od : Obj} (h : G a = some (.frz od u)) (hd : isDic u = true) : Sw G (upd G a u) := by
  refine ⟨fun b u' hf r => ?_, fun b xs e => ?_, fun b o xs e => ?_⟩
  · by_cases z : b = a
    · subst z
      rcases r with r | ⟨o, r⟩
      · rw [h] at r; cases r; cases hf
      · rw [h] at r; cases r; exact .inl upd_same
    · exact r.imp (fun q => (upd_ne z).trans q) fun ⟨o, q⟩ => ⟨o, (upd_ne z).trans q⟩
  · by_cases z : b = a
    · subst z; rw [h] at e; cases e
    · exact (upd_ne z).trans e
  · by_cases z : b = a
    · subst z; rw [h] at e; cases e; cases hd
    · exact (upd_ne z).trans e
theorem Rel.swap {σ : L2.St} {H : Hp} {ρ : Cs} {a : Addr} {u u' : HO} (R : Rel K σ G H ρ) (h : G a = some u) (sw : Sw G (upd G a u')) : Rel K σ (upd G a u') (upd H a u') ρ := by
  refine ⟨fun b o e => ?_, R.len, fun i d e => ?_, fun i d e => ?_, R.apart⟩
  · by_cases z : b = a
    · subst z; rw [upd_same] at e ⊢; exact e
    · rw [upd_ne z] at e ⊢; exact R.gh b o e
  · obtain ⟨v, hv, r⟩ := R.fro i d e
    exact ⟨v, hv, rp_sw sw r⟩
  · obtain ⟨p, o, hv, hp, gp, ob⟩ := R.own i d e
    have ne : p ≠ a := fun z => by subst z; rw [h] at gp; cases gp
    exact ⟨p, o, hv, (upd_ne ne).trans hp, (upd_ne ne).trans gp, ob_sw sw ob⟩
theorem Lk.swap {n : Nat} {σ σ' : L2.St} {H G1 H1 : Hp} {ρ ρ' : Cs} {a : Addr} {u w : HO} (l : Lk n σ (upd G a w) (upd H a w) ρ σ' G1 H1 ρ') (hG : G a = some u) (hH : H a = some u) : Lk n σ G H ρ σ' (upd G1 a u) (upd H1 a u) ρ' := by
  refine ⟨⟨fun b o e => ?_, fun b o n e => ?_, fun b o n e g t => ?_, fun b e => ?_⟩, fun p x => ?_, l.pn⟩
  · by_cases z : b = a
    · subst z; rw [hG] at e; cases e; exact upd_same
    · rw [upd_ne z]; exact l.st.gg b o ((upd_ne z).trans e)
  · by_cases z : b = a
    · subst z; rw [hH] at e; cases e; exact upd_same
    · rw [upd_ne z]; exact l.st.hh b o n ((upd_ne z).trans e)
  · have z : b ≠ a := fun z => by subst z; rw [hG] at g; cases g
    rw [upd_ne z]
    exact l.st.fr b o n ((upd_ne z).trans e) ((upd_ne z).trans g) t
  · by_cases z : b = a
    · subst z; rw [upd_same] at e; cases e
    · rw [upd_ne z] at e
      have := l.st.dom b e
      rw [upd_ne z] at this
      exact this
  · rcases l.sb p x with y | y
    · exact .inl y
    · by_cases z : p = a
      · subst z; rw [upd_same] at y; cases y
      · rw [upd_ne z] at y; exact .inr y
end
section
variable {K : PySem.W.Frag} {X : Cx}
/-- an object is known as it lies while an expression is worth something -/
theorem pe_locked {e : Expr} {t : TE} (h : PE X e t) : PE X e (fun σ H Q => ∃ a u, H a = some u ∧ Mut (some u) ∧ ∀ od, t σ (upd H a (.frz od u)) fun v H1 => H1 a = some (.frz od u) ∧ Q v (upd H1 a u)) := by
  refine ⟨fun pins s σ H Q I ⟨a, u, ha, mu, q⟩ => ?_⟩
  obtain ⟨od, I2⟩ := I.lock ha mu
  have nf := I.nofrz ha mu
  refine thn (h.run pins s σ _ _ I2 (q od)) fun v s1 ⟨x, H1, I1, rx, e1, q1⟩ => ?_
  exact ⟨x, _, I1.unlock e1 nf, rx, q1⟩
theorem pe_or {e : Expr} {t t' : TE} (h : PE X e t) (h' : PE X e t') : PE X e (fun σ H Q => t σ H Q ∨ t' σ H Q) :=
  ⟨fun pins s σ H Q I q => q.elim (h.run pins s σ H Q I) (h'.run pins s σ H Q I)⟩
def dlen : HO → Nat
  | .dK kvs => kvs.length
  | .dT kvs => kvs.length
  | _ => 0
theorem pe_sized {e : Expr} {t : TE} (h : PE X e t) : PE X e (fun σ H Q => ∃ a u, Rd H a u ∧ isDic u = true ∧ (dlen u ≤ sizeLine → t σ H Q)) := by
  refine ⟨fun pins s σ H Q I ⟨a, u, rd, hd, q⟩ => h.run pins s σ H Q I (q ?_)⟩
  unfold isDic at hd
  split at hd
  · exact (dk_rd I.hok rd).1
  · exact (dt_rd I.hok rd).1
  · cases hd
def mLk (i : Nat) (m : ME) : ME := fun ρ k => match ρ[i]? with
  | some (.fro (.dict _)) => m ρ k
  | _ => False
def tEL (K : PySem.W.Frag) (i : Nat) (m : ME) : TE := fun σ H Q => ∃ G ρ, Rel K σ G H ρ ∧ (∃ a o u, σ[i]? = some (some (.ref a)) ∧ G a = some (.frz o u) ∧ isDic u = true ∧ dlen u ≤ sizeLine) ∧ m ρ fun d ρ' => ∀ v G' H', Rel K σ G' H' ρ' → Lk 0 σ G H ρ σ G' H' ρ' → fF K H σ ρ' G' H' v d → Q v H'
theorem rp_dic {G : Hp} {v : V} {ps : List (D × D)} (r : Rp K G v (.dict ps)) : ∃ a u, v = .ref a ∧ Rd G a u ∧ isDic u = true := by
  cases r with
  | dK s l a => exact ⟨_, _, rfl, s, rfl⟩
  | dT s l a => exact ⟨_, _, rfl, s, rfl⟩
theorem mut_dic {u : HO} (h : isDic u = true) : Mut (some u) := by
  unfold isDic at h
  split at h
  · exact True.intro
  · exact True.intro
  · cases h
theorem se_locked {e : Expr} {i : Nat} {m : ME} (mo : Mo m) (h : PE X e (tEL K i m)) : SE K (fF K) X e (mLk i m) := by
  refine ⟨fun ρ k k' w => ?_, pe_weak (pe_sized (pe_or h (pe_locked h))) fun σ H Q ⟨G, ρ, R, q⟩ => ?_⟩
  · unfold mLk
    split
    · exact mo ρ k k' w
    · exact id
  · unfold mLk at q
    split at q
    · rename_i ps ei
      obtain ⟨v, hv, r⟩ := R.fro i _ ei
      obtain ⟨a, u, rfl, rd, hd⟩ := rp_dic r
      refine ⟨a, u, rd_same R.gh rd, hd, fun hz => ?_⟩
      rcases rd with rd | ⟨o, rd⟩
      · refine .inr ⟨a, u, R.gh a u rd, mut_dic hd, fun od => ?_⟩
        have sw := sw_lock (od := od) rd hd
        refine ⟨_, ρ, R.swap rd sw, ⟨a, od, u, hv, upd_same, hd, hz⟩, mo ρ _ _ (fun d ρ' q v' G1 H1 R1 l1 f1 => ?_) q⟩
        have g1 : G1 a = some (.frz od u) := l1.st.gg a _ upd_same
        have l0 := l1.swap rd (R.gh a u rd)
        refine ⟨R1.gh a _ g1, q v' _ _ (R1.swap g1 (sw_unlock g1 hd)) l0 ?_⟩
        obtain ⟨p, ob, rfl, h0, nw, hp, gp, oo⟩ := f1
        have ne : p ≠ a := fun z => by subst z; rw [upd_same] at h0; cases h0
        rw [upd_ne ne] at h0
        exact ⟨p, ob, rfl, h0, nw, (upd_ne ne).trans hp, (upd_ne ne).trans gp, ob_sw (sw_unlock g1 hd) oo⟩
      · exact .inl ⟨G, ρ, R, ⟨a, o, u, hv, rd, hd, hz⟩, q⟩
    · exact q.elim
/-- the keys of a dict that is known as it lies -/
theorem wk_keys {G : Hp} {a : Addr} {o : Obj} {ks : List Key} {xs : List V} (hl : ks.length = xs.length) (h : G a = some (.frz o (.dK (ks.zip xs)))) : Wk K (Itk a o (ks.zip xs)) G (ks.map keyD) := by
  intro G' H' g gh
  have W := walk_keys (d := a) (o := o) (kvs := ks.zip xs)
  have hh : H' a = some (.frz o (.dK (ks.zip xs))) := gh _ _ (g _ _ h)
  have ln : (ks.map keyD).length = (ks.zip xs).length := by simp [hl]
  refine ⟨fun i hi => W.goes i H' (by omega) hh, ln ▸ W.stops H' hh, fun i x H3 hi y => ?_⟩
  obtain ⟨rfl, k, v, hx, rfl⟩ := W.yields i H' x H3 (by omega) hh y
  refine ⟨G', keyD k, gh, .refl, ?_, ?_⟩
  · rw [List.getElem?_map]
    have : (ks.zip xs)[i]?.map Prod.fst = some k := by rw [hx]; rfl
    rw [← List.getElem?_map, List.map_fst_zip (by omega)] at this
    rw [this]; rfl
  · cases k with
    | inl n => exact .int n
    | inr x => exact .str x
theorem wk_keysT {G : Hp} {a : Addr} {o : Obj} {ks : List (List Key)} {xs : List V} (hl : ks.length = xs.length) (h : G a = some (.frz o (.dT (ks.zip xs)))) : Wk K (Itkt a o (ks.zip xs)) G (ks.map fun k => .tuple .mad (k.map keyD)) := by
  intro G' H' g gh
  have W := walk_keysT (d := a) (o := o) (kvs := ks.zip xs)
  have hh : H' a = some (.frz o (.dT (ks.zip xs))) := gh _ _ (g _ _ h)
  have ln : (ks.map fun k => D.tuple .mad (k.map keyD)).length = (ks.zip xs).length := by simp [hl]
  refine ⟨fun i hi => W.goes i H' (by omega) hh, ln ▸ W.stops H' hh, fun i x H3 hi y => ?_⟩
  obtain ⟨rfl, k, v, p, hx, rfl, hp⟩ := W.yields i H' x H3 (by omega) hh y
  have rk : ∀ {G : Hp} (k : List Key), RpAll K G (k.map kV) (k.map keyD) := fun {G} k => by
    induction k with
    | nil => exact .nil
    | cons q r ih => exact .cons (by cases q with | inl n => exact .int n | inr x => exact .str x) ih
  have gx : (ks.map fun k => D.tuple .mad (k.map keyD))[i]? = some (.tuple .mad (k.map keyD)) := by
    rw [List.getElem?_map]
    have : (ks.zip xs)[i]?.map Prod.fst = some k := by rw [hx]; rfl
    rw [← List.getElem?_map, List.map_fst_zip (by omega)] at this
    rw [this]; rfl
  cases gp : G' p with
  | some u =>
    have := gh _ _ gp
    rw [hp] at this
    cases this
    exact ⟨G', _, gh, .refl, gx, .tup gp (rk k)⟩
  | none =>
    refine ⟨upd G' p (.tup (k.map kV)), _, same_put gh hp, ⟨same_upd gp, fun _ _ _ e => e, fun b u _ e g t => ?_, fun _ e => e⟩, gx, .tup upd_same (rk k)⟩
    by_cases z : b = p
    · subst z; rw [hp] at e; cases e; cases t
    · rw [upd_ne z]; exact g
theorem rp_key {G : Hp} {v : V} {d : D} {k : Key} (h : keyOf d = some k) (r : Rp K G v d) : v = kV k := by
  have := keyOf_inv h
  subst this
  cases k with
  | inl n => cases r; rfl
  | inr x => cases r; rfl
def mDcL (mg : MG) (mt : MT) (mk me : ME) (vs : List Nat) (k : List (D × D) → Cs → Prop) : List D → List (D × D) → Cs → Prop
  | [], acc, ρ => k acc ρ
  | x :: r, acc, ρ => mg x ρ fun ρ1 => mt ρ1 fun b ρ2 => if b = true then mk ρ2 fun dk ρ3 => me ρ3 fun d ρ4 => match keyOf dk with
      | some q => mDcL mg mt mk me vs k r (putKs acc (.inl q) dk d) (wipeC ρ4 vs)
      | none => False
    else mDcL mg mt mk me vs k r acc (wipeC ρ2 vs)
def mKeys (i : Nat) : MI := fun ρ k => match ρ[i]? with
  | some (.fro (.dict ps)) => k (ps.map (·.1)) ρ
  | _ => False
def mDc (wi : MI) (mg : MG) (mt : MT) (mk me : ME) (vs : List Nat) : ME := fun ρ k => wi ρ fun xs ρ1 => mDcL mg mt mk me vs (fun ds ρ2 => k (.dict ds) ρ2) xs [] (wipeC ρ1 vs)
theorem mo_dcL {mg : MG} {mt : MT} {mk me : ME} {vs : List Nat} (hg : ∀ d ρ (k k' : Cs → Prop), (∀ ρ', k ρ' → k' ρ') → mg d ρ k → mg d ρ k') (ht : Mo mt) (hk : Mo mk) (he : Mo me) {k k' : List (D × D) → Cs → Prop} (w : ∀ d ρ', k d ρ' → k' d ρ') : ∀ (xs : List D) (acc : List (D × D)) (ρ : Cs), mDcL mg mt mk me vs k xs acc ρ → mDcL mg mt mk me vs k' xs acc ρ
  | [], acc, ρ, h => w _ _ h
  | x :: r, acc, ρ, h => hg _ _ _ _ (fun ρ1 => ht ρ1 _ _ fun b ρ2 q => by
    cases b
    · exact mo_dcL hg ht hk he w r acc _ q
    · refine hk ρ2 _ _ (fun dk ρ3 => he ρ3 _ _ fun d ρ4 q => ?_) q
      revert q
      cases keyOf dk with
      | none => exact id
      | some z => exact mo_dcL hg ht hk he w r _ _) h
theorem len_putKs {ps : List (D × D)} {k : Key ⊕ List Key} {a v : D} : (putKs ps k a v).length ≤ ps.length + 1 := by
  unfold putKs
  split <;> simp
theorem ob_len {G : Hp} {kvs : List (Key × V)} {acc : List (D × D)} (h : ObR K G (.dK kvs) (.dict acc)) : kvs.length = acc.length := by
  cases h with
  | dK l a => have := rps_len a; simp; omega
theorem ob_put {G : Hp} {kvs : List (Key × V)} {acc : List (D × D)} {k : Key} {v : V} {d : D} (h : ObR K G (.dK kvs) (.dict acc)) (r : Rp K G v d) : ObR K G (.dK (putK kvs k v)) (.dict (putKs acc (.inl k) (keyD k) d)) := by
  cases h with
  | dK l a => exact put_K l a r
theorem dc_run {J : It} {g : TG} {mg : MG} {mt : MT} {mk me : ME} {vs ts : List Nat} (sg : SG K 0 ts g mg) (hts : ∀ t ∈ ts, t ∈ vs) (ht : Mo mt) (hk : Mo mk) (he : Mo me) {σ : L2.St} {G H : Hp} {ρ : Cs} {xs : List D} {Q : VK} (R : Rel K σ G H ρ) (wk : Wk K J G xs) (hsz : xs.length ≤ sizeLine)
    (q : mDcL mg mt mk me vs (fun ds ρ2 => ∀ v G' H', Rel K σ G' H' ρ2 → Lk 0 σ G H ρ σ G' H' ρ2 → fF K H σ ρ2 G' H' v (.dict ds) → Q v H') xs [] (wipeC ρ vs)) (L : Addr) (hL : H L = none) :
    ∃ W : Nat → Nat → Hp → Prop, (∃ m, W 0 m (upd H L (.dK []))) ∧ ∀ i m H, W i m H → (J.stop i H ∧ Q (.ref L) H) ∨ (J.go i H ∧ ∃ Nx : Hp → Prop, (∀ H', Nx H' → ∃ m', m' < m ∧ W (i + 1) m' H') ∧ ∀ x H', J.yld i H x H' → g x (wipe σ vs) H' fun σ2 H2 => wipe σ2 vs = wipe σ vs ∧ tT K mt σ2 H2 fun b H3 =>
      if b = true then tE K (fE K) mk σ2 H3 fun y H4 => tE K (fE K) me σ2 H4 fun z H5 => ∃ kvs k, y = kV k ∧ H5 L = some (.dK kvs) ∧ kvs.length < sizeLine ∧ Nx (upd H5 L (.dK (putK kvs k z))) else Nx H3) := by
  have nG : G L = none := R.gh.free hL
  have nw : ¬ Ow (wipe σ vs) (wipeC ρ vs) L := fun w => (R.wipe vs).old w hL
  have l1 : Lk 0 σ G H ρ σ G H ρ := .refl
  refine ⟨fun i k H' => k = xs.length - i ∧ i ≤ xs.length ∧ ∃ G' ρ' acc kvs, Rel K (wipe σ vs) G' H' (wipeC ρ' vs) ∧ Same G G' ∧ Lk 0 σ G H ρ (wipe σ vs) G' H' (wipeC ρ' vs) ∧ H' L = some (.dK kvs) ∧ G' L = none ∧ ¬ Ow (wipe σ vs) (wipeC ρ' vs) L ∧ ObR K G' (.dK kvs) (.dict acc) ∧ acc.length ≤ i ∧
    mDcL mg mt mk me vs (fun ds ρ2 => ∀ v G' H', Rel K σ G' H' ρ2 → Lk 0 σ G H ρ σ G' H' ρ2 → fF K H σ ρ2 G' H' v (.dict ds) → Q v H') (xs.drop i) acc (wipeC ρ' vs),
    ⟨_, rfl, Nat.zero_le _, G, ρ, [], [], (R.wipe vs).poke nG nw, .refl _, (l1.wipe vs).poke hL, upd_same, nG, nw, (ObR.dK (ks := []) (xs := []) (ds := []) rfl .nil), Nat.zero_le _, q⟩, ?_⟩
  rintro i k H2 ⟨rfl, hle, G2, ρ2, acc, kvs, R2, g2, l2, hL2, nG2, nw2, ra, hacc, q2⟩
  obtain ⟨w1, w2, w3⟩ := wk G2 H2 g2 R2.gh
  by_cases hlt : i < xs.length
  · refine .inr ⟨w1 i hlt, fun H' => ∃ G' ρ' acc kvs, Rel K (wipe σ vs) G' H' (wipeC ρ' vs) ∧ Same G G' ∧ Lk 0 σ G H ρ (wipe σ vs) G' H' (wipeC ρ' vs) ∧ H' L = some (.dK kvs) ∧ G' L = none ∧ ¬ Ow (wipe σ vs) (wipeC ρ' vs) L ∧ ObR K G' (.dK kvs) (.dict acc) ∧ acc.length ≤ i + 1 ∧
      mDcL mg mt mk me vs (fun ds ρ2 => ∀ v G' H', Rel K σ G' H' ρ2 → Lk 0 σ G H ρ σ G' H' ρ2 → fF K H σ ρ2 G' H' v (.dict ds) → Q v H') (xs.drop (i + 1)) acc (wipeC ρ' vs), fun H' z => ⟨xs.length - (i + 1), by omega, rfl, hlt, z⟩, fun x H3 y => ?_⟩
    obtain ⟨G3, dx, gh3, st3, hx, rx⟩ := w3 i x H3 hlt y
    have R3 := R2.pure st3 gh3
    have l3 := l2.trans (Lk.pure (n := 0) (ρ := wipeC ρ2 vs) (σ := wipe σ vs) st3)
    have hL3 : H3 L = some (.dK kvs) := st3.hh L _ (fun z => z) hL2
    have nG3 : G3 L = none := st3.fr L _ (fun z => z) hL2 nG2 rfl
    have e : xs.drop i = dx :: xs.drop (i + 1) := by
      rw [List.drop_eq_getElem_cons hlt]
      rw [List.getElem?_eq_getElem hlt] at hx
      rw [Option.some.inj hx]
    rw [e] at q2
    refine sg.run (wipe σ vs) G3 H3 (wipeC ρ2 vs) x dx _ R3 rx (sg.mono _ _ _ _ (fun ρ4 q4 σ4 R4 l4 c4 => ?_) q2)
    have ew : wipe σ4 vs = wipe σ vs := (c4.wipe hts).trans wipe_wipe
    refine ⟨ew, G3, ρ4, R4, ht ρ4 _ _ (fun b ρ5 q5 G5 H5 R5 l5 => ?_) q4⟩
    have own4 : ¬ Ow σ4 ρ4 L := fun w => by
      rcases l4.sb L w with z | z
      · exact nw2 z
      · rw [hL3] at z; cases z
    have hL5 : H5 L = some (.dK kvs) := l5.st.hh L _ own4 hL3
    have nG5 : G5 L = none := l5.st.fr L _ own4 hL3 nG3 rfl
    have l05 := l3.trans (l4.trans l5)
    cases b
    · have z : Lk 0 (wipe σ vs) G3 H3 (wipeC ρ2 vs) (wipe σ4 vs) G5 H5 (wipeC ρ5 vs) := (l4.trans l5).wipe vs
      have RR := R5.wipe vs
      have LL := l05.wipe vs
      rw [ew] at RR LL z
      refine ⟨G5, ρ5, acc, kvs, RR, (g2.trans st3.gg).trans l5.st.gg, LL, hL5, nG5, fun w => ?_, ob_same (st3.gg.trans l5.st.gg) ra, by omega, q5⟩
      rcases z.sb L w with z | z
      · exact nw2 z
      · rw [hL3] at z; cases z
    · refine ⟨G5, ρ5, R5, hk ρ5 _ _ (fun dk ρ6 q6 y G6 H6 R6 l6 ry => ⟨G6, ρ6, R6, he ρ6 _ _ (fun d ρ7 q7 v G7 H7 R7 l7 rv => ?_) q6⟩) q5⟩
      have own5 : ¬ Ow σ4 ρ5 L := fun w => by
        rcases l5.sb L w with z | z
        · exact own4 z
        · rw [hL3] at z; cases z
      have l67 := l6.trans l7
      have hL7 : H7 L = some (.dK kvs) := l67.st.hh L _ own5 hL5
      have nG7 : G7 L = none := l67.st.fr L _ own5 hL5 nG5 rfl
      revert q7
      cases ek : keyOf dk with
      | none => exact fun z => z.elim
      | some kk =>
        intro q7
        have la := ob_len ra
        refine ⟨kvs, kk, rp_key ek ry, hL7, by omega, ?_⟩
        have z : Lk 0 (wipe σ vs) G3 H3 (wipeC ρ2 vs) (wipe σ4 vs) G7 H7 (wipeC ρ7 vs) := ((l4.trans l5).trans l67).wipe vs
        have RR := R7.wipe vs
        have LL := (l05.trans l67).wipe vs
        rw [ew] at RR LL z
        have nw7 : ¬ Ow (wipe σ vs) (wipeC ρ7 vs) L := fun w => by
          rcases z.sb L w with z | z
          · exact nw2 z
          · rw [hL3] at z; cases z
        have lp := len_putKs (ps := acc) (k := .inl kk) (a := dk) (v := d)
        have ob := ob_put (k := kk) (ob_same ((st3.gg.trans l5.st.gg).trans l67.st.gg) ra) rv
        rw [← keyOf_inv ek] at ob
        exact ⟨G7, ρ7, _, _, RR.poke nG7 nw7, ((g2.trans st3.gg).trans l5.st.gg).trans l67.st.gg, LL.poke hL, upd_same, nG7, nw7, ob, by omega, q7⟩
  · have e : i = xs.length := by omega
    subst e
    rw [List.drop_length] at q2
    obtain ⟨Rf, of⟩ := R2.unwipe
    exact .inl ⟨w2, q2 _ G2 H2 Rf ⟨l2.st, fun p w => l2.sb p (of p w), fun _ h => absurd h (Nat.not_lt_zero _)⟩ ⟨L, _, rfl, hL, fun w => nw2 (of L w), hL2, nG2, ra⟩⟩
theorem t_dc {g : TG} {mg : MG} {mt : MT} {mk me : ME} {vs ts : List Nat} {i : Nat} (sg : SG K 0 ts g mg) (hts : ∀ t ∈ ts, t ∈ vs) (ht : Mo mt) (hk : Mo mk) (he : Mo me) (σ : L2.St) (H : Hp) (Q : VK) (h : tEL K i (mDc (mKeys i) mg mt mk me vs) σ H Q) :
    tDc (iKeys (tVar i)) g (tT K mt) (tE K (fE K) mk) (tE K (fE K) me) vs σ H Q := by
  obtain ⟨G, ρ, R, ⟨a, o, u, hv, ga, hd, hz⟩, h⟩ := h
  unfold mDc mKeys at h
  split at h
  · rename_i ps ei
    obtain ⟨v, hv', r⟩ := R.fro i _ ei
    rw [hv] at hv'
    cases hv'
    refine ⟨_, hv, a, o, rfl, ?_⟩
    cases r with
    | @dK _ ks xs ds s l ra =>
      have e : u = .dK (ks.zip xs) := by
        rcases s with s | ⟨o', s⟩
        · rw [ga] at s; cases s
        · rw [ga] at s; cases s; rfl
      subst e
      have ln := rps_len ra
      rw [List.map_fst_zip (by simp; omega)] at h
      have hz' : (ks.zip xs).length ≤ sizeLine := hz
      exact .inl ⟨_, R.gh _ _ ga, dc_run sg hts ht hk he R (wk_keys l ga) (by simp at hz' ⊢; omega) h⟩
    | @dT _ ks xs ds s l ra =>
      have e : u = .dT (ks.zip xs) := by
        rcases s with s | ⟨o', s⟩
        · rw [ga] at s; cases s
        · rw [ga] at s; cases s; rfl
      subst e
      have ln := rps_len ra
      rw [List.map_fst_zip (by simp; omega)] at h
      have hz' : (ks.zip xs).length ≤ sizeLine := hz
      exact .inr ⟨_, R.gh _ _ ga, dc_run sg hts ht hk he R (wk_keysT l ga) (by simp at hz' ⊢; omega) h⟩
  · exact h.elim
/-- {k: v for x in d if ..}, d a name -/
theorem se_dc {kx vx tg e : Expr} {ifs : List Expr} {scope : Scope} {own : List (Str × Nat)} {pos : Pos} {i : Nat} {g : TG} {mg : MG} {mt : MT} {mk me : ME} {ts : List Nat} (hc : X.calm = true) (hN : X.N.Nodup) (hi : PE X e (tVar i)) (ok : BlkOk X.N X.env.scope scope own)
    (hg : ∀ (s : Shared) (H : Hp) (C : Addr) (cl : List (Str × Addr)) (fp : List Addr), PG (X.blk s H scope (compEnvC scope cl C X.env) fp) tg g) (sg : SG K 0 ts g mg) (hts : ∀ t ∈ ts, t ∈ own.map (·.2))
    (ht : ∀ (s : Shared) (H : Hp) (C : Addr) (cl : List (Str × Addr)) (fp : List Addr), STs K (X.blk s H scope (compEnvC scope cl C X.env) fp) ifs mt)
    (hk : ∀ (s : Shared) (H : Hp) (C : Addr) (cl : List (Str × Addr)) (fp : List Addr), SE K (fE K) (X.blk s H scope (compEnvC scope cl C X.env) fp) kx mk)
    (he : ∀ (s : Shared) (H : Hp) (C : Addr) (cl : List (Str × Addr)) (fp : List Addr), SE K (fE K) (X.blk s H scope (compEnvC scope cl C X.env) fp) vx me) (hs : ∀ x, foldedSetIterable e X.env x = pure x := by intro _; rfl) :
    SE K (fF K) X (.DictComp kx vx [⟨tg, e, ifs, 0⟩] scope pos) (mLk i (mDc (mKeys i) mg mt mk me (own.map (·.2)))) := by
  have mt' := (ht X.s_0 X.H_0 0 [] []).mono
  have mk' := (hk X.s_0 X.H_0 0 [] []).mono
  have me' := (he X.s_0 X.H_0 0 [] []).mono
  refine se_locked (fun ρ k k' w => ?_) (pe_weak (pe_dc hc hN (pi_keys hi) ok hg (fun s H C cl fp => (ht s H C cl fp).pts) (fun s H C cl fp => (hk s H C cl fp).pe) (fun s H C cl fp => (he s H C cl fp).pe) hs) (t_dc sg hts mt' mk' me'))
  unfold mDc mKeys
  split
  · exact fun q => mo_dcL sg.mono mt' mk' me' (fun ds ρ2 => w _ ρ2) _ [] _ q
  · exact id
end
end Dl

set_option Elab.async false
set_option linter.all false
set_option maxRecDepth 100000
set_option maxHeartbeats 4000000
/-! Calls by names in any order; two dicts of ints and texts that are equal. -/
namespace Dl
open PySem PySem.Spec PyProof.Rows L2 Br
/-- the values in another order -/
def perm {α : Type} (is : List Nat) (xs : List α) : List α := is.filterMap (xs[·]?)
theorem vals_get {vs : List V} {us : List Value} {i : Nat} (r : Vals vs us) : (vs[i]? = none ∧ us[i]? = none) ∨ ∃ v u, vs[i]? = some v ∧ us[i]? = some u ∧ RelV v u := by
  cases h : vs[i]? with
  | some v =>
    obtain ⟨u, h1, h2⟩ := r.get h
    exact .inr ⟨v, u, rfl, h1, h2⟩
  | none =>
    refine .inl ⟨rfl, ?_⟩
    rw [List.getElem?_eq_none_iff] at h ⊢
    rw [← r.length]; exact h
theorem vals_perm {vs : List V} {us : List Value} (r : Vals vs us) : ∀ is : List Nat, Vals (perm is vs) (perm is us)
  | [] => .nil
  | i :: is => by
    have ih := vals_perm r is
    unfold perm at ih ⊢
    rcases vals_get (i := i) r with ⟨h1, h2⟩ | ⟨v, u, h1, h2, h3⟩
    · rw [List.filterMap_cons_none h1, List.filterMap_cons_none h2]; exact ih
    · rw [List.filterMap_cons_some h1, List.filterMap_cons_some h2]; exact .cons h3 ih
theorem rps_perm {K : PySem.W.Frag} {G : Hp} {vs : List V} {ds : List D} (r : RpAll K G vs ds) : ∀ is : List Nat, RpAll K G (perm is vs) (perm is ds)
  | [] => .nil
  | i :: is => by
    have ih := rps_perm r is
    unfold perm at ih ⊢
    cases h : vs[i]? with
    | some v =>
      obtain ⟨d, h1, h2⟩ := rps_get r h
      rw [List.filterMap_cons_some h, List.filterMap_cons_some h1]; exact .cons h2 ih
    | none =>
      have h1 : ds[i]? = none := by
        rw [List.getElem?_eq_none_iff] at h ⊢
        rw [← rps_len r]; exact h
      rw [List.filterMap_cons_none h, List.filterMap_cons_none h1]; exact ih
structure SK (K : PySem.W.Frag) (X : Cx) (kws : List Keyword) (m : MA) : Prop where
  mono : Mo m
  pk : PK X kws (tA K m)
section
variable {K : PySem.W.Frag} {X : Cx}
theorem pk_weak {kws : List Keyword} {t t' : TA} (h : PK X kws t) (w : ∀ σ H Q, t' σ H Q → t σ H Q) : PK X kws t' := ⟨fun pos pins s σ H Q I q => h.run pos pins s σ H Q I (w σ H Q q)⟩
theorem sk_nil : SK K X [] aNil := ⟨fun ρ k k' w => w _ _, pk_weak pk_nil fun σ H Q ⟨G, ρ, R, q⟩ => q [] G H R .refl .nil⟩
theorem sk_cons {e : Expr} {kws : List Keyword} {ma : ME} {mr : MA} {nm : Option Str} {kpos : Pos} (h : SE K (fE K) X e ma) (g : SK K X kws mr) : SK K X (⟨nm, e, kpos⟩ :: kws) (aCons ma mr) :=
  ⟨mo_cons h.mono g.mono, pk_weak (pk_cons h.pe g.pk) (t_cons h.mono g.mono)⟩
def mCallK (F : Fs) (is : List Nat) (ma : MA) : ME := fun ρ k => ma ρ fun ds ρ1 => ds.length = is.length ∧ F ((perm is ds).map .fro) fun d _ => k d ρ1
/-- f(k = e, ..), the names in any order -/
theorem se_callK {F : Fs} {k j : Nat} {f : Addr} {fd : FuncData} {ps ks : List Str} {is : List Nat} {x : Str} {p pos : Pos} {kws : List Keyword} {ma : MA} (Fn : FnD X.prog X.w K X.mg X.base j f fd ps 0 F) (hK : X.K = K) (hG : Bare X.A) (hr : Room k X.A) (hj : j ≤ k) (hg : Gl X x) (hm : X.mg x = some (.ref f)) (hk : PySem.W.keepIn K (.ref f) = true)
    (hb : ∀ (s : Shared) (ws : List Value), ws.length = ps.length → BindsTo s fd ⟨[], ks.zip ws⟩ (ps.zip (perm is ws))) (hil : is.length = ps.length) (hkw : SK K X kws ma) (hall : (backToKw pos (keywordEach kws X.env)).all (·.1.isSome) = true := by rfl) (hks : (backToKw pos (keywordEach kws X.env)).filterMap (·.1) = ks := by rfl)
    (hdb : (x == ("__debug__" : Str)) = false := by decide) (hpl : ((backTo pos (starEach [] X.env)).any (·.1) || (backToKw pos (keywordEach kws X.env)).any (·.1.isNone)) = false := by rfl) :
    SE K (fE K) X (.Call (.Name x p) [] kws pos) (mCallK F is ma) := by
  subst hK
  refine ⟨fun ρ k k' w => hkw.mono ρ _ _ fun ds ρ1 q => ⟨q.1, Fn.mo _ _ _ (fun d _ => w _ _) q.2⟩, ⟨fun pins s σ H Q I ⟨G, ρ, R, q⟩ => ?_⟩⟩
  refine wpAny_Call_Name_kw (ld_glob I hg hm ?_ hdb)
  refine PySem.W.callWith_KW0 (h₀ := X.base) I.ok.mod.kin hk hall (thn (hkw.pk.run pos pins s σ H (fun zs H1 => ∃ G1 ds ρ1, Rel X.K σ G1 H1 ρ1 ∧ Lk 0 σ G H ρ σ G1 H1 ρ1 ∧ RpAll X.K G1 zs ds ∧ ds.length = is.length ∧ F ((perm is ds).map .fro) fun d _ => ∀ v G' H', Rel X.K σ G' H' ρ1 → Lk 0 σ G H ρ σ G' H' ρ1 → Rp X.K G' v d → Q v H') I ⟨G, ρ, R, hkw.mono ρ _ _ (fun ds ρ1 q vs G1 H1 R1 l1 rs => ⟨G1, ds, ρ1, R1, l1, rs, q.1, q.2⟩) q⟩) fun ws s1 hh => ?_) hpl
  obtain ⟨zs, H1, I1, r, G1, ds, ρ1, R1, l1, rs, hl, q⟩ := hh
  refine ⟨I1.kIn, ?_⟩
  rw [hks]
  have hwl : ws.length = ps.length := by rw [← r.length, rps_len rs, hl, hil]
  refine run_g Fn.ok hG (hr.mono hj) (E := fun _ _ _ => False) pass0 I1 (hb s1 ws hwl) (vals_perm r is) ?_
  have rp := rps_perm rs is
  refine ⟨?_, G1, (perm is ds).map .fro, ⟨R1.gh, ?_, fun i d e => ?_, fun i d e => ?_, fun i j p d e h => ?_⟩, Fn.mo _ _ _ (fun d _ q v G' H' gh R' st rv => ?_) q⟩
  · rw [rps_len rp]
    have := Fn.ln _ _ q
    rw [List.length_map] at this
    exact this
  · rw [List.length_map, List.length_map, rps_len rp]
  · rw [List.getElem?_map] at e
    cases z : (perm is ds)[i]? with
    | none => rw [z] at e; cases e
    | some d' =>
      rw [z] at e
      cases e
      obtain ⟨v, h1, h2⟩ := rps_get' rp z
      exact ⟨v, by rw [List.getElem?_map, h1]; rfl, h2⟩
  · rw [List.getElem?_map] at e
    cases z : (perm is ds)[i]? with
    | none => rw [z] at e; cases e
    | some d' => rw [z] at e; cases e
  · rw [List.getElem?_map] at h
    cases z : (perm is ds)[i]? with
    | none => rw [z] at h; cases h
    | some d' => rw [z] at h; cases h
  · have sp : Stp Pure G1 H1 G' H' := st.weak fun a ⟨i, d, h, _⟩ => by
      rw [List.getElem?_map] at h
      cases z : (perm is ds)[i]? with
      | none => rw [z] at h; cases h
      | some d' => rw [z] at h; cases h
    exact q v G' H' (R1.pure sp gh) (l1.trans (Lk.pure sp)) rv
end
/-! ### two dicts that are equal -/
def eqDD (ps qs : List (D × D)) : Prop := ps.length = qs.length ∧ ∀ p ∈ ps, flatD p.2 = true ∧ isTupD p.1 = false ∧ dLook qs p.1 = some p.2
def oDD (neg : Bool) : O2 := fun a b k => match a, b with
  | .dict ps, .dict qs => eqDD ps qs ∧ k (.bool (!neg))
  | _, _ => False
theorem mo_DD {neg : Bool} : Mo2 (oDD neg) := fun a b k k' w h => by
  unfold oDD at h ⊢
  split at h
  · exact ⟨h.1, w _ h.2⟩
  · exact h.elim
theorem flat_rp {K : PySem.W.Frag} {G : Hp} {v w : V} {d : D} (h : flatD d = true) (r : Rp K G v d) (r' : Rp K G w d) : v = w ∧ flatB v = true := by
  cases d with
  | none => cases r; cases r'; exact ⟨rfl, rfl⟩
  | bool b => cases r; cases r'; exact ⟨rfl, rfl⟩
  | int i => cases r; cases r'; exact ⟨rfl, rfl⟩
  | str s => cases r; cases r'; exact ⟨rfl, rfl⟩
  | _ => cases h
theorem dd_hits {K : PySem.W.Frag} {G : Hp} {ks ls : List Key} {xs ys : List V} {ds es : List D} (hl : ks.length = xs.length) (ra : RpAll K G xs ds) (hl' : ls.length = ys.length) (rb : RpAll K G ys es) (h : ∀ p ∈ (ks.map keyD).zip ds, flatD p.2 = true ∧ isTupD p.1 = false ∧ dLook ((ls.map keyD).zip es) p.1 = some p.2) :
    ∀ p ∈ ks.zip xs, valV (ls.zip ys) p.1 = some p.2 ∧ flatB p.2 = true := by
  intro p hp
  obtain ⟨i, hi⟩ := List.mem_iff_getElem?.mp hp
  obtain ⟨k, v⟩ := p
  rw [List.getElem?_zip_eq_some] at hi
  obtain ⟨d, hd, rd⟩ := rps_get ra hi.2
  have m : (keyD k, d) ∈ (ks.map keyD).zip ds := List.mem_iff_getElem?.mpr ⟨i, by
    rw [List.getElem?_zip_eq_some]
    exact ⟨by rw [List.getElem?_map, hi.1]; rfl, hd⟩⟩
  obtain ⟨f, _, lk⟩ := h _ m
  have lk' : look kOf (.inl k) ((ls.map keyD).zip es) = some d := by
    have : dLook ((ls.map keyD).zip es) (keyD k) = look kOf (.inl k) ((ls.map keyD).zip es) := by unfold dLook; rw [kOf_D]
    rw [← this]; exact lk
  rcases look_K (k := k) hl' rb with ⟨w, e, h1, h2, h3⟩ | ⟨_, h2⟩
  · rw [lk'] at h2
    cases h2
    obtain ⟨rfl, fb⟩ := flat_rp f rd h3
    exact ⟨h1, fb⟩
  · rw [lk'] at h2; cases h2
section
variable {K : PySem.W.Frag} {X : Cx}
theorem dd_run {neg : Bool} {op : CmpOp} (hop : (op = .Eq ∧ neg = false) ∨ (op = .NotEq ∧ neg = true)) (hK : X.K = K) (hu : X.A.units < cLine) : Cmp K X op (oDD neg) := by
  subst hK
  refine ⟨mo_DD, fun pins s σ H x y v u Q I rx ry h => ?_⟩
  obtain ⟨G, a, b, g, hx, hy, q⟩ := h
  unfold oDD at q
  split at q
  · rename_i ps qs
    obtain ⟨⟨hl, hp⟩, q⟩ := q
    cases ps with
    | nil =>
      obtain ⟨p, rfl, r1⟩ := raw_of I g hx
      obtain ⟨p2, rfl, r2⟩ := raw_of I g hy
      rw [← hl] at r2
      cases rx
      cases ry
      rcases hop with ⟨rfl, rfl⟩ | ⟨rfl, rfl⟩
      · exact raw_eq r1 r2 hu ⟨.bl _, H, I, rfl, stay g q (.bl _)⟩
      · exact raw_ne r1 r2 hu ⟨.bl _, H, I, rfl, stay g q (.bl _)⟩
    | cons p0 ps =>
      obtain ⟨pa, rfl, ca⟩ := vw_dict g hx
      obtain ⟨pb, rfl, cb⟩ := vw_dict g hy
      cases rx
      cases ry
      obtain ⟨f0, t0, l0⟩ := hp p0 List.mem_cons_self
      rcases ca with ⟨ks, xs, ds, rd, hk, ra, e⟩ | ⟨ks, xs, ds, rd, hk, ra, e⟩
      · rcases cb with ⟨ls, ys, es, rd', hk', ra', e'⟩ | ⟨ls, ys, es, rd', hk', ra', e'⟩
        · subst e'
          rw [e] at hp hl
          obtain ⟨_, ya, va, rva, da⟩ := dk_rd I.hok rd
          obtain ⟨_, yb, vb, rvb, db⟩ := dk_rd I.hok rd'
          have n1 := rps_len ra
          have n2 := rps_len ra'
          have e1 := rva.length
          have e2 := rvb.length
          have hl2 : va.length = vb.length := by
            rw [← e1, ← e2]
            simp at hl ⊢
            omega
          rcases hop with ⟨rfl, rfl⟩ | ⟨rfl, rfl⟩
          · exact PySem.W.keq_eq (knd := mixKind X.prog X.w) (r := true) ya yb da db hu (fun _ => hits_all rvb rva (dd_hits hk ra hk' ra' hp)) ⟨.bl true, H, I, by simp [hl2]; rfl, stay g q (.bl _)⟩
          · exact PySem.W.keq_ne (knd := mixKind X.prog X.w) (r := true) ya yb da db hu (fun _ => hits_all rvb rva (dd_hits hk ra hk' ra' hp)) ⟨.bl false, H, I, by simp [hl2]; rfl, stay g q (.bl _)⟩
        · subst e'
          have : p0 ∈ (ks.map keyD).zip ds := by rw [← e]; exact List.mem_cons_self
          obtain ⟨k0, hk0, e0⟩ := List.mem_map.mp (List.of_mem_zip (a := p0.1) (b := p0.2) this).1
          rw [← e0] at l0
          unfold dLook at l0
          rw [kOf_D] at l0
          exfalso
          revert l0
          generalize p0.2 = d0
          clear hl hp e hx hy rd' q
          intro l0
          have : ∀ (ls : List (List Key)) (es : List D), look kOf (.inl k0) ((ls.map fun k => D.tuple .mad (k.map keyD)).zip es) = none := by
            intro ls
            induction ls with
            | nil => intro es; rfl
            | cons q r ih =>
              intro es
              cases es with
              | nil => rfl
              | cons e es =>
                show (if kOf (.tuple .mad (q.map keyD)) = some (.inl k0) then some e else look kOf (.inl k0) ((r.map fun k => D.tuple .mad (k.map keyD)).zip es)) = none
                rw [kOf_T, if_neg (fun z => nomatch z)]
                exact ih es
          have l1 : look kOf (.inl k0) ((ls.map fun k => D.tuple .mad (k.map keyD)).zip es) = some d0 := l0
          rw [this ls es] at l1
          cases l1
      · exfalso
        have : p0 ∈ (ks.map fun k => D.tuple .mad (k.map keyD)).zip ds := by rw [← e]; exact List.mem_cons_self
        obtain ⟨k0, hk0, e0⟩ := List.mem_map.mp (List.of_mem_zip (a := p0.1) (b := p0.2) this).1
        rw [← e0] at t0
        cases t0
  · exact q.elim
theorem c_ddne (hK : X.K = K) (hu : X.A.units < cLine) : Cmp K X .NotEq (oDD true) := dd_run (.inr ⟨rfl, rfl⟩) hK hu
theorem c_ddeq (hK : X.K = K) (hu : X.A.units < cLine) : Cmp K X .Eq (oDD false) := dd_run (.inl ⟨rfl, rfl⟩) hK hu
end
end Dl

set_option Elab.async false
set_option linter.all false
set_option maxRecDepth 100000
set_option maxHeartbeats 4000000
/-! repr of a new list of data in which dicts may stand, but no lists. -/
namespace Dl
open PySem PySem.Spec PyProof.Rows L2 Br
mutual
/-- no list and no script within -/
def noL : D → Bool
  | .list _ => false
  | .scr _ => false
  | .tuple _ ds => noLs ds
  | .dict kvs => noLk kvs
  | _ => true
def noLs : List D → Bool
  | [] => true
  | d :: ds => noL d && noLs ds
def noLk : List (D × D) → Bool
  | [] => true
  | (a, b) :: r => noL a && noL b && noLk r
end
theorem noLk_zip : ∀ {as bs : List D}, as.length = bs.length → noLk (as.zip bs) = true → noLs bs = true
  | [], [], _, _ => rfl
  | a :: as, b :: bs, h, q => by
    have q' : (noL a && noL b && noLk (as.zip bs)) = true := q
    simp only [Bool.and_eq_true] at q'
    show (noL b && noLs bs) = true
    rw [q'.1.2, noLk_zip (Nat.succ.inj h) q'.2]; rfl
theorem toPyKs_fst : ∀ ps : List (D × D), (toPyKs ps).map (·.1) = toPys (ps.map (·.1))
  | [] => rfl
  | (a, b) :: r => by show toPy a :: (toPyKs r).map (·.1) = toPy a :: toPys (r.map (·.1)); rw [toPyKs_fst r]
theorem toPyKs_snd : ∀ ps : List (D × D), (toPyKs ps).map (·.2) = toPys (ps.map (·.2))
  | [] => rfl
  | (a, b) :: r => by show toPy b :: (toPyKs r).map (·.2) = toPy b :: toPys (r.map (·.2)); rw [toPyKs_snd r]
section
variable {X : Cx} {pins : List (Addr × Obj)} {σ : L2.St} {H : Hp} {s : Shared}
theorem key_reads {h : Heap} {k : Key} {u : Value} (e : keyIs k u = true) : Reads h u (toPy (keyD k)) [] := by
  rcases keyIs_shape e with ⟨i, t, rfl, rfl⟩ | ⟨x, t, rfl, rfl⟩
  · exact .int i t
  · exact .str x t
theorem keys_reads {h : Heap} {P : Program} {w : World} : ∀ {es : List DictEntry} {kvs : List (Key × Value)}, Pairs (mixKind P w) es kvs → ReadsAll h (es.map (·.key)) (toPys ((kvs.map (·.1)).map keyD)) []
  | _, _, .nil => .nil
  | _, _, .cons h1 _ t => .cons (as := []) (bs := []) (key_reads h1) (keys_reads t)
theorem vals_of_pairs {P : Program} {w : World} : ∀ {es : List DictEntry} {kvs : List (Key × Value)}, Pairs (mixKind P w) es kvs → es.map (·.val) = kvs.map (·.2)
  | _, _, .nil => rfl
  | _, _, .cons _ h t => by rw [List.map_cons, List.map_cons, h, vals_of_pairs t]
theorem kv_vals {ks : List Key} : ∀ {xs : List V} {vs : List (Key × Value)}, KV (ks.zip xs) vs → ks.length = xs.length → Vals xs (vs.map (·.2)) ∧ vs.map (·.1) = ks := by
  induction ks with
  | nil =>
    intro xs vs r hl
    cases xs with
    | nil => cases r; exact ⟨.nil, rfl⟩
    | cons _ _ => cases hl
  | cons k ks ih =>
    intro xs vs r hl
    cases xs with
    | nil => cases hl
    | cons x xs =>
      cases r with
      | cons h t =>
        obtain ⟨a, b⟩ := ih t (Nat.succ.inj hl)
        exact ⟨.cons h.2 a, by rw [List.map_cons, b, ← h.1]⟩
theorem kt_vals {ks : List (List Key)} : ∀ {xs : List V} {vs : List (List Key × Addr × Value)}, KT H (ks.zip xs) vs → ks.length = xs.length → Vals xs (vs.map (·.2.2)) ∧ vs.map (·.1) = ks ∧ ∀ q ∈ vs, H q.2.1 = some (.tup (q.1.map kV)) := by
  induction ks with
  | nil =>
    intro xs vs r hl
    cases xs with
    | nil => cases r; exact ⟨.nil, rfl, fun _ z => nomatch z⟩
    | cons _ _ => cases hl
  | cons k ks ih =>
    intro xs vs r hl
    cases xs with
    | nil => cases hl
    | cons x xs =>
      cases r with
      | @cons p q ps qs h t =>
        obtain ⟨a, b, c⟩ := ih t (Nat.succ.inj hl)
        obtain ⟨e1, e2, e3⟩ := h
        refine ⟨.cons e3 a, by rw [List.map_cons, b, ← e1], fun q' hq => ?_⟩
        rcases List.mem_cons.mp hq with z | z
        · subst z
          have e1' : k = q'.1 := e1
          rw [← e1']; exact e2
        · exact c q' z
theorem flat_reads {h : Heap} : ∀ {k : List Key} {us : List Value}, Vals (k.map kV) us → ReadsAll h us (toPys (k.map keyD)) []
  | [], _, .nil => .nil
  | k :: ks, _, .cons r t => by
    refine .cons (as := []) (bs := []) ?_ (flat_reads t)
    cases k with
    | inl i => obtain ⟨t, rfl⟩ := r; exact .int i t
    | inr x => obtain ⟨t, rfl⟩ := r; exact .str x t
theorem tkeys_reads (I : Inv X pins σ H s) : ∀ {vs : List (List Key × Addr × Value)}, (∀ q ∈ vs, H q.2.1 = some (.tup (q.1.map kV))) → ReadsAll s.heap (vs.map fun q => Value.ref q.2.1) (toPys ((vs.map (·.1)).map fun k => D.tuple .mad (k.map keyD))) []
  | [], _ => .nil
  | q :: vs, h => by
    refine .cons (as := []) (bs := []) ?_ (tkeys_reads I fun p hp => h p (List.mem_cons_of_mem _ hp))
    obtain ⟨its, rv, ⟨o, ho, hc, n, hd⟩, _⟩ := I.tuple (SqT.of (h q List.mem_cons_self))
    exact .tuple ho hc hd (flat_reads rv)
mutual
theorem rp_reads (I : Inv X pins σ H s) : ∀ {v : V} {d : D}, Rp X.K H v d → noL d = true → ∀ u, RelV v u → ∃ as, Reads s.heap u (toPy d) as ∧ sysModules ∉ as
  | _, _, .non, _, u, r => by cases r; exact ⟨_, .none, List.not_mem_nil⟩
  | _, _, .bl b, _, u, r => by cases r; exact ⟨_, .bool b, List.not_mem_nil⟩
  | _, _, .int i, _, u, r => by obtain ⟨t, rfl⟩ := r; exact ⟨_, .int i t, List.not_mem_nil⟩
  | _, _, .str x, _, u, r => by obtain ⟨t, rfl⟩ := r; exact ⟨_, .str x t, List.not_mem_nil⟩
  | _, _, .lst _ _, h, _, _ => nomatch h
  | _, _, .scr _, h, _, _ => nomatch h
  | _, _, .tup q a, h, u, r => by
    cases r
    obtain ⟨its, rv, ⟨o, ho, hc, n, hd⟩, _⟩ := I.tuple (SqT.of q)
    obtain ⟨as, hr, ns⟩ := rps_reads I a h its rv
    exact ⟨_, .tuple ho hc hd hr, ns⟩
  | _, _, .tupC q a, h, u, r => by
    cases r
    obtain ⟨its, rv, ⟨o, ho, hc, n, hd⟩, _⟩ := I.tuple q
    obtain ⟨as, hr, ns⟩ := rps_reads I a h its rv
    exact ⟨_, .tuple ho hc hd hr, ns⟩
  | _, _, .tupZ q _ a, h, u, r => by
    cases r
    obtain ⟨its, rv, ⟨o, ho, hc, n, hd⟩, _⟩ := I.tuple (.inl (.inr ⟨_, q⟩))
    obtain ⟨as, hr, ns⟩ := rps_reads I a h its rv
    exact ⟨_, .tuple ho hc hd hr, ns⟩
  | _, _, .dK (ks := ks) (xs := xs) (ds := ds) q l a, h, u, r => by
    cases r
    have ln := rps_len a
    obtain ⟨_, ne, vs, rel, o, es, ep, h1, h2, h3, h4, h5, h6⟩ := dk_rd I.hok q
    obtain ⟨rv, ek⟩ := kv_vals rel l
    obtain ⟨as, hr, ns⟩ := rps_reads I a (noLk_zip (by simp; omega) h) _ rv
    refine ⟨_, .dict (as := []) (bs := as) h1 h2.1 h3 ?_ ?_, ?_⟩
    · rw [toPyKs_fst, List.map_fst_zip (by simp; omega), ← ek]
      exact keys_reads h5
    · rw [toPyKs_snd, List.map_snd_zip (by simp; omega), vals_of_pairs h5]
      exact hr
    · intro z
      rcases List.mem_append.mp z with z | z
      · rw [List.mem_singleton.mp z] at ne
        simp at ne
      · exact ns z
  | _, _, .dT (ks := ks) (xs := xs) (ds := ds) q l a, h, u, r => by
    cases r
    have ln := rps_len a
    obtain ⟨_, ne, vs, rel, o, es, ep, h1, h2, h3, h4, h5, h6⟩ := dt_rd I.hok q
    obtain ⟨rv, ek, ht⟩ := kt_vals rel l
    obtain ⟨as, hr, ns⟩ := rps_reads I a (noLk_zip (by simp; omega) h) _ rv
    refine ⟨_, .dict (as := []) (bs := as) h1 h2.1 h3 ?_ ?_, ?_⟩
    · rw [toPyKs_fst, List.map_fst_zip (by simp; omega), ← ek, h4, List.map_map]
      exact tkeys_reads I ht
    · rw [toPyKs_snd, List.map_snd_zip (by simp; omega), h4, List.map_map]
      exact hr
    · intro z
      rcases List.mem_append.mp z with z | z
      · rw [List.mem_singleton.mp z] at ne
        simp at ne
      · exact ns z
theorem rps_reads (I : Inv X pins σ H s) : ∀ {vs : List V} {ds : List D}, RpAll X.K H vs ds → noLs ds = true → ∀ us, Vals vs us → ∃ as, ReadsAll s.heap us (toPys ds) as ∧ sysModules ∉ as
  | _, _, .nil, _, us, r => by cases r; exact ⟨_, .nil, List.not_mem_nil⟩
  | _, _, .cons (d := d) (ds := ds) x t, h, us, r => by
    have h' : (noL d && noLs ds) = true := h
    simp only [Bool.and_eq_true] at h'
    cases r with
    | cons r1 r2 =>
      obtain ⟨as, q1, n1⟩ := rp_reads I x h'.1 _ r1
      obtain ⟨bs, q2, n2⟩ := rps_reads I t h'.2 _ r2
      exact ⟨_, .cons q1 q2, fun z => (List.mem_append.mp z).elim n1 n2⟩
end
end
/-! ### repr([..]) -/
def oReprL : O1 := fun d k => match d with
  | .list ds => noLs ds = true ∧ PyData.showableAll (toPys ds) = true ∧ PyData.depthAll (toPys ds) ≤ 58 ∧ (toPy (.list ds)).shown.length ≤ sizeLine ∧ k (.str (toPy (.list ds)).shown)
  | _ => False
theorem mo_reprL : Mo1 oReprL := fun a k k' w h => by
  unfold oReprL at h ⊢
  split at h
  · exact ⟨h.1, h.2.1, h.2.2.1, h.2.2.2.1, w _ h.2.2.2.2⟩
  · exact h.elim
theorem repr_listK {prog : Program} {w : World} {A : Around} {E : Value → Shared → Prop} {s : Shared} {Q : Value → Shared → Prop} {a : Addr} {o : Obj} {vs : Array Value} {n : Nat} {xs : List PyData} {as : List Addr} (h1 : s.heap.get? a = some o) (h2 : o.cls = .type "list") (h3 : o.data = .seq vs n) (h4 : ReadsAll s.heap vs.toList xs as) (hs : PyData.showableAll xs = true) (hsm : sysModules ∉ as) (hg : A.guards = some []) (hu : A.units + (PyData.depthAll xs + 2) < cLine) (hz : (PyData.list xs).shown.length ≤ sizeLine)
    (hQ : ∀ h' u tk, (∀ b o, s.heap.get? b = some o → h'.get? b = some o) → Q (.str (PyData.list xs).shown u) { s with heap := h', toks := tk }) : wpAny (model prog w) A (call (.builtin "repr") [.ref a]) Q E s := by
  have hz' : (listText (PyData.shownAll xs)).length ≤ sizeLine := by simpa only [PyData.shown] using hz
  obtain ⟨bs, hb, hk⟩ := ReprAllK.of_readsAll (prog := prog) (w := w) h4 hs (fun _ => hsm) (fun t ht => Nat.le_trans (listText_mem_le ht) hz')
  have hna : a ∉ bs := not_mem_of_deeper (.list h1 h2 h3 h4) (by simp only [PyData.depth]; omega) hb
  refine call_repr_slot (T := "list") (idr := "list.__repr__") (by omega) ⟨o, h1, h2⟩ F.slot_list_repr.toG ?_
  simp only [PyData.shown] at hQ
  obtain ⟨l⟩ := vs
  cases l with
  | nil =>
    have h4' : ReadsAll s.heap [] xs _ := h4
    cases h4'
    simp only [PyData.shownAll, listText_nil] at hQ
    exact call_list_repr_empty ⟨o, h1, h2⟩ h1 h3 ⟨_, _, rfl, hQ s.heap _ _ fun _ _ e => e⟩
  | cons x l =>
    exact call_list_reprK h1 h2 h3 hna (by simpa using hk.length_eq) (fun i y e => hk.item i y (by simpa using e)) hg (fun b _ => Clear.nil b) (by show A.units + 1 + _ < cLine; omega) (fun _ _ e => e) (fun h' u tk hk => ⟨_, _, rfl, hQ h' u tk hk⟩) hz'
section
variable {K : PySem.W.Frag} {X : Cx} {a : Expr} {ma : ME} {pos : Pos}
theorem callr_reprL (hu : X.A.units + 64 < cLine) (hG : Bare X.A) : CallR X (.builtin "repr") (fun xs H Q => ∃ x, xs = [x] ∧ rO1 X.K (pE X.K) oReprL x H Q) := by
  intro pins s σ H xs us Q I r h
  obtain ⟨x, rfl, G, d, g, hx, q⟩ := h
  have rx := vw_rp g hx
  unfold oReprL at q
  split at q
  · rename_i ds
    obtain ⟨h1, h2, h3, h4, q⟩ := q
    have fin : Q (.str (toPy (.list ds)).shown) H := stay g q (.str _)
    cases rx with
    | lst sq ra =>
      obtain ⟨u, rfl, ru⟩ := vals1 r
      cases (show u = Value.ref _ from ru)
      obtain ⟨its, rv, ⟨o, n, ho, hc, _, hd⟩, _⟩ := I.list (.inl sq)
      obtain ⟨as, hr, ns⟩ := rps_reads I ra h1 its rv
      refine repr_listK ho hc hd hr h2 ns hG (by omega) h4 fun h' u tk hk => ?_
      exact ⟨.str _, H, I.kept hk, ⟨_, rfl⟩, fin⟩
  · exact q.elim
theorem se_reprL {k : Nat} {p : Pos} (hK : X.K = K) (hG : Bare X.A) (hr : Room k X.A) (hg : Gl X "repr") (hm : X.mg "repr" = none) (ha : SE K (fV K) X a ma) (hs : starEach [a] X.env = [(false, eval a X.env)] := by rfl) (hpl : (backTo pos (starEach [] X.env)).any (·.1) = false := by rfl) :
    SE K (fE K) X (.Call (.Name "repr" p) [a] [] pos) (mUn oReprL ma) := by
  subst hK
  exact se_b1 (id := "repr") (callr_reprL hr.units hG) (fun y H Q h => ⟨y, rfl, h⟩) mo_reprL embE hg hm (by decide +kernel) ha hs (by decide) (by decide) hpl
end
end Dl

set_option Elab.async false
set_option linter.all false
set_option maxRecDepth 100000
set_option maxHeartbeats 4000000
/-! How large data are, as repr shows them. -/
namespace Dl
open PySem PySem.Spec PyProof.Rows L2 Br
/-- data without lists, at most m deep, of at most n signs and things -/
structure Wl (m n : Nat) (d : D) : Prop where
  nl : noL d = true
  sh : (toPy d).showable = true
  le : (toPy d).leavesShort 13 = true
  dp : (toPy d).depth ≤ m
  bk : (toPy d).bulk ≤ n
structure Wls (m n : Nat) (ds : List D) : Prop where
  nl : noLs ds = true
  sh : PyData.showableAll (toPys ds) = true
  le : PyData.leavesShortAll 13 (toPys ds) = true
  dp : PyData.depthAll (toPys ds) ≤ m
  bk : PyData.bulkAll (toPys ds) ≤ n
structure Wlk (m n : Nat) (ps : List (D × D)) : Prop where
  nl : noLk ps = true
  sh : PyData.showableKv (toPyKs ps) = true
  le : PyData.leavesShortKv 13 (toPyKs ps) = true
  dp : PyData.depthKv (toPyKs ps) ≤ m
  bk : PyData.bulkKv (toPyKs ps) ≤ n
theorem Wl.mono {m n m' n' : Nat} {d : D} (h : Wl m n d) (a : m ≤ m') (b : n ≤ n') : Wl m' n' d := ⟨h.nl, h.sh, h.le, Nat.le_trans h.dp a, Nat.le_trans h.bk b⟩
theorem Wls.mono {m n m' n' : Nat} {d : List D} (h : Wls m n d) (a : m ≤ m') (b : n ≤ n') : Wls m' n' d := ⟨h.nl, h.sh, h.le, Nat.le_trans h.dp a, Nat.le_trans h.bk b⟩
theorem wl_none {m n : Nat} : Wl m n .none := ⟨rfl, rfl, rfl, Nat.zero_le _, Nat.zero_le _⟩
/-- plain signs -/
def okSt (x : Str) : Prop := ∀ c ∈ x.cps.toList, c < 16 ^ 8
theorem wl_str {m n : Nat} {x : Str} (ok : okSt x) (h : x.length ≤ n) : Wl m n (.str x) :=
  ⟨rfl, rfl, List.all_eq_true.mpr fun c hc => decide_eq_true (ok c hc), Nat.zero_le _, h⟩
theorem wl_int {m n : Nat} {i : Int} (h : i.natAbs < 10 ^ 12) : Wl m n (.int i) := by
  refine ⟨rfl, ?_, ?_, Nat.zero_le _, Nat.zero_le _⟩
  · show decide (i.natAbs.log2 < 1920) = true
    refine decide_eq_true ?_
    by_cases z : i.natAbs = 0
    · rw [z]; decide
    · exact (Nat.log2_lt z).mpr (Nat.lt_of_lt_of_le h (by decide +kernel))
  · show decide ((PyData.shown (.int i)).length ≤ 13) = true
    exact decide_eq_true (PyData.shown_int_le h)
theorem wls_nil {m : Nat} : Wls m 0 [] := ⟨rfl, rfl, rfl, Nat.zero_le _, Nat.le_refl _⟩
theorem wls_cons {m n k : Nat} {d : D} {ds : List D} (h : Wl m n d) (r : Wls m k ds) : Wls m (n + 1 + k) (d :: ds) := by
  refine ⟨?_, ?_, ?_, ?_, ?_⟩
  · show (noL d && noLs ds) = true
    rw [h.nl, r.nl]; rfl
  · show (PyData.showable (toPy d) && PyData.showableAll (toPys ds)) = true
    rw [h.sh, r.sh]; rfl
  · show (PyData.leavesShort 13 (toPy d) && PyData.leavesShortAll 13 (toPys ds)) = true
    rw [h.le, r.le]; rfl
  · show max (PyData.depth (toPy d)) (PyData.depthAll (toPys ds)) ≤ m
    exact Nat.max_le.mpr ⟨h.dp, r.dp⟩
  · show PyData.bulk (toPy d) + 1 + PyData.bulkAll (toPys ds) ≤ n + 1 + k
    have := h.bk
    have := r.bk
    omega
theorem wls_all {m n : Nat} : ∀ {ds : List D}, (∀ d ∈ ds, Wl m n d) → Wls m (ds.length * (n + 1)) ds
  | [], _ => by rw [List.length_nil, Nat.zero_mul]; exact wls_nil
  | d :: ds, h => by
    have := wls_cons (h d List.mem_cons_self) (wls_all fun x hx => h x (List.mem_cons_of_mem _ hx))
    refine this.mono (Nat.le_refl _) ?_
    rw [List.length_cons, Nat.succ_mul]
    omega
theorem wl_tup {m n : Nat} {c : Tk} {ds : List D} (h : Wls m n ds) : Wl (m + 1) n (.tuple c ds) := by
  refine ⟨h.nl, h.sh, h.le, ?_, h.bk⟩
  have := h.dp
  show PyData.depth (.tuple (toPys ds)) ≤ m + 1
  simp only [PyData.depth]
  omega
theorem wlk_nil {m : Nat} : Wlk m 0 [] := ⟨rfl, rfl, rfl, Nat.zero_le _, Nat.le_refl _⟩
theorem wlk_cons {m n n' k : Nat} {a b : D} {ps : List (D × D)} (h : Wl m n a) (h' : Wl m n' b) (r : Wlk m k ps) : Wlk m (n + n' + 2 + k) ((a, b) :: ps) := by
  refine ⟨?_, ?_, ?_, ?_, ?_⟩
  · show (noL a && noL b && noLk ps) = true
    rw [h.nl, h'.nl, r.nl]; rfl
  · show (PyData.showable (toPy a) && PyData.showable (toPy b) && PyData.showableKv (toPyKs ps)) = true
    rw [h.sh, h'.sh, r.sh]; rfl
  · show (PyData.leavesShort 13 (toPy a) && PyData.leavesShort 13 (toPy b) && PyData.leavesShortKv 13 (toPyKs ps)) = true
    rw [h.le, h'.le, r.le]; rfl
  · have := h.dp
    have := h'.dp
    have := r.dp
    show PyData.depthKv ((toPy a, toPy b) :: toPyKs ps) ≤ m
    simp only [PyData.depthKv]
    omega
  · show PyData.bulk (toPy a) + PyData.bulk (toPy b) + 2 + PyData.bulkKv (toPyKs ps) ≤ n + n' + 2 + k
    have := h.bk
    have := h'.bk
    have := r.bk
    omega
theorem wlk_all {m n n' : Nat} : ∀ {ps : List (D × D)}, (∀ p ∈ ps, Wl m n p.1 ∧ Wl m n' p.2) → Wlk m (ps.length * (n + n' + 2)) ps
  | [], _ => by rw [List.length_nil, Nat.zero_mul]; exact wlk_nil
  | (a, b) :: ps, h => by
    have h0 := h (a, b) List.mem_cons_self
    have r := wlk_cons h0.1 h0.2 (wlk_all fun x hx => h x (List.mem_cons_of_mem _ hx))
    refine ⟨r.nl, r.sh, r.le, r.dp, Nat.le_trans r.bk ?_⟩
    rw [List.length_cons, Nat.succ_mul]
    omega
theorem wl_dict {m n : Nat} {ps : List (D × D)} (h : Wlk m n ps) : Wl (m + 1) n (.dict ps) := by
  refine ⟨h.nl, h.sh, h.le, ?_, h.bk⟩
  have := h.dp
  show PyData.depth (.dict (toPyKs ps)) ≤ m + 1
  simp only [PyData.depth]
  omega
/-- repr of a new list of such -/
theorem repr_wl {m n : Nat} {ds : List D} {k : D → Prop} (h : Wls m n ds) (hm : m ≤ 58) (hn : n ≤ 1000000) (q : k (.str (toPy (.list ds)).shown)) : oReprL (.list ds) k := by
  refine ⟨h.nl, h.sh, Nat.le_trans h.dp hm, ?_, q⟩
  refine PyData.shown_fits_bulk (B := 13) (by decide) (by decide) h.le (Nat.le_trans (show PyData.bulkAll (toPys ds) ≤ n from h.bk) ?_)
  exact Nat.le_trans hn (by decide)
end Dl

set_option Elab.async false
set_option linter.all false
set_option maxRecDepth 100000
set_option maxHeartbeats 4000000
/-! isinstance(d, dict) of a dict of one's own. -/
namespace Dl
open PySem PySem.Spec PyProof.Rows L2 Br
section
variable {K : PySem.W.Frag} {X : Cx}
def mIsDict (i : Nat) : ME := fun ρ k => match ρ[i]? with
  | some (.own (.dict _)) => k (.bool true) ρ
  | _ => False
theorem mo_isDict {i : Nat} : Mo (mIsDict i) := fun ρ k k' w => by
  unfold mIsDict
  split
  · exact w _ _
  · exact id
theorem se_isdict {i : Nat} {a : Expr} {p p2 pos : Pos} (hK : X.K = K) (hg : Gl X "isinstance") (hm : X.mg "isinstance" = none) (hg2 : Gl X "dict") (hm2 : X.mg "dict" = none) (ha : PE X a (tVar i)) (hs : starEach [a, .Name "dict" p2] X.env = [(false, eval a X.env), (false, eval (.Name "dict" p2) X.env)] := by rfl) (hs2 : starEach [.Name "dict" p2] X.env = [(false, eval (.Name "dict" p2) X.env)] := by rfl) (hpl : (backTo pos (starEach [.Name "dict" p2] X.env)).any (·.1) = false := by rfl) :
    SE K (fE K) X (.Call (.Name "isinstance" p) [a, .Name "dict" p2] [] pos) (mIsDict i) := by
  subst hK
  refine ⟨mo_isDict, pe_weak (pe_callB call_isi hg hm (by decide +kernel) (pa_cons ha (pa_cons (pe_bltn (v := .ty "dict") hg2 hm2 (by decide +kernel) rfl) pa_nil hs2) hs) (by decide) (by decide) hs hpl) fun σ H Q ⟨G, ρ, R, q⟩ => ?_⟩
  unfold mIsDict at q
  split at q
  · rename_i ps e
    obtain ⟨p, o, hv, hp, gp, ob⟩ := R.own i _ e
    have fin : Q (.bl true) H := q _ G H R .refl (.bl true)
    refine ⟨_, hv, ⟨_, .ty "dict", .type "dict", .type "dict", true, rfl, .ty "dict", ?_, rfl, fin⟩⟩
    cases ob with
    | dK l a => exact .base (.dK hp)
    | dT l a => exact .base (.dT hp)
  · exact q.elim
/-- a comparison, the left one a thing of one's own -/
theorem st_cO {op : CmpOp} {o : O2} {i : Nat} {a b : Expr} {mb : ME} {pos : Pos} (h : Cmp K X op o) (ha : PE X a (tVar i)) (hb : SE K (fV K) X b mb) (hm : behindInMarks op b = false) : ST K X (.Compare a [op] [b] pos) (mTest (mOpO o i mb)) := by
  have ho := op2_of (K := K) (π := pE K) h.mo
  refine ⟨mo_test (mo_opO ho.mono hb.mono), pt_weak (pt_cmpR h.opr ha hb.pe hm) fun σ H Q ⟨G, ρ, R, q⟩ => ?_⟩
  refine t_opO (φ := fE K) ho embE hb σ H _ ⟨G, ρ, R, mo_opO ho.mono hb.mono ρ _ _ (fun d ρ1 q v G1 H1 R1 l r => ?_) q⟩
  cases d with
  | bool b =>
    cases r
    exact ⟨b, rfl, q G1 H1 R1 l⟩
  | _ => exact q.elim
end
end Dl

set_option Elab.async false
set_option linter.all false
set_option maxRecDepth 100000
set_option maxHeartbeats 4000000
/-! texts and tuples repeated, sorted(tuple of pairs); a def whose promise is known otherwise. -/
namespace Dl
open PySem PySem.Spec PyProof.Rows L2 Br
def oMulS : O2 := fun a b k => match a, b with
  | .str z, .int n => 0 ≤ n ∧ n ≤ 1000 ∧ z.length ≤ 1000 ∧ (repS z n).length ≤ sizeLine ∧ k (.str (repS z n))
  | _, _ => False
theorem mo_mulS : Mo2 oMulS := fun a b k k' w h => by cases a <;> cases b <;> first | exact h.elim | exact ⟨h.1, h.2.1, h.2.2.1, h.2.2.2.1, w _ h.2.2.2.2⟩
def oMulT : O2 := fun a b k => match a, b with
  | .tuple _ xs, .int n => xs ≠ [] ∧ 2 ≤ n ∧ n ≤ 1000 ∧ xs.length ≤ 1000 ∧ k (.tuple .mad (List.replicate n.toNat xs).flatten)
  | _, _ => False
theorem mo_mulT : Mo2 oMulT := fun a b k k' w h => by cases a <;> cases b <;> first | exact h.elim | exact ⟨h.1, h.2.1, h.2.2.1, h.2.2.2.1, w _ h.2.2.2.2⟩
section
variable {K : PySem.W.Frag} {X : Cx} {a b : Expr} {ma mb : ME} {pos : Pos}
theorem opr_mulS : OpR X (binaryOp .Mult) (rO2 X.K (pE X.K) oMulS) := by
  intro pins s σ H x y v u Q I rx ry h
  obtain ⟨G, a, b, g, hx, hy, q⟩ := h
  cases a <;> cases b <;> first | exact q.elim | skip
  have ex := vw_str hx
  have ey := vw_int hy
  subst ex ey
  exact op_mulS pins s σ H _ _ v u Q I rx ry ⟨_, _, rfl, rfl, q.1, q.2.1, q.2.2.1, q.2.2.2.1, stay g q.2.2.2.2 (.str _)⟩
theorem rps_rep {G : Hp} {vs : List V} {ds : List D} (r : RpAll K G vs ds) : ∀ n : Nat, RpAll K G (List.replicate n vs).flatten (List.replicate n ds).flatten
  | 0 => .nil
  | n + 1 => by
    rw [List.replicate_succ, List.replicate_succ, List.flatten_cons, List.flatten_cons]
    exact rps_app r (rps_rep r n)
theorem opr_mulT : OpR X (binaryOp .Mult) (rO2 X.K (pE X.K) oMulT) := by
  intro pins s σ H x y v u Q I rx ry h
  obtain ⟨G, a, b, g, hx, hy, q⟩ := h
  cases a <;> cases b <;> first | exact q.elim | skip
  have ey := vw_int hy
  subst ey
  obtain ⟨h1, h2, h3, h4, q⟩ := q
  cases hx with
  | fro r =>
    obtain ⟨p, xs, rfl, sq, ra, _⟩ := rp_tup r
    have ln := rps_len ra
    refine op_repT pins s σ H _ _ v u Q I rx ry ⟨p, _, xs, rfl, rfl, sqT_same g sq, fun z => h1 (by rw [z] at ln; exact List.length_eq_zero_iff.mp ln.symm), h2, h3, by omega, fun p' np => ?_⟩
    exact newG g q np (.tup upd_same (rps_same (same_upd (g.free np)) (rps_rep ra _)))
  | own h ob => cases ob
theorem se_mulS (hK : X.K = K) (ha : SE K (fE K) X a ma) (hb : SE K (fV K) X b mb) : SE K (fE K) X (.BinOp a .Mult b pos) (mOp oMulS ma mb) := by subst hK; exact se_op opr_mulS (op2_of mo_mulS) embE ha hb
theorem se_mulT (hK : X.K = K) (ha : SE K (fE K) X a ma) (hb : SE K (fV K) X b mb) : SE K (fE K) X (.BinOp a .Mult b pos) (mOp oMulT ma mb) := by subst hK; exact se_op opr_mulT (op2_of mo_mulT) embE ha hb
/-- t[::-1] of a tuple -/
def mRev (ma : ME) : ME := fun ρ k => ma ρ fun d ρ1 => match d with
  | .tuple _ xs => k (.tuple .mad xs.reverse) ρ1
  | _ => False
theorem rps_rev {G : Hp} : ∀ {vs : List V} {ds : List D}, RpAll K G vs ds → RpAll K G vs.reverse ds.reverse
  | _, _, .nil => .nil
  | _, _, .cons r rs => by
    rw [List.reverse_cons, List.reverse_cons]
    exact rps_app (rps_rev rs) (.cons r .nil)
theorem se_rev {n : Nat} {p1 p2 p3 : Pos} (hK : X.K = K) (ha : SE K (fE K) X a ma) : SE K (fE K) X (.Subscript a (.Slice none none (some (.UnaryOp .USub (.Constant (.int 1) n p1) p2)) p3) pos) (mRev ma) := by
  subst hK
  refine ⟨fun ρ k k' w => ha.mono ρ _ _ fun d ρ1 q => ?_, pe_weak (pe_revT ha.pe) fun σ H Q ⟨G, ρ, R, q⟩ => ⟨G, ρ, R, ha.mono ρ _ _ (fun d ρ1 q x G1 H1 R1 l1 rx => ?_) q⟩⟩
  · cases d <;> first | exact q.elim | exact w _ _ q
  · cases d <;> first | exact q.elim | skip
    obtain ⟨p, xs, rfl, sq, ra, _⟩ := rp_tup rx
    refine ⟨p, xs, rfl, sqT_same R1.gh sq, fun p' np => ?_⟩
    have st := stp_newG (o := .tup xs.reverse) R1.gh np
    exact q _ _ _ (R1.pure st (same_new2 R1.gh np)) (l1.trans (.pure st)) (.tup upd_same (rps_same st.gg (rps_rev ra)))
/-- sorted(t), t a tuple of pairs -/
def oSorted_tups : O1 := fun a k => match a with
  | .tuple _ ds => ds.all isPr = true ∧ ∀ ds' : List D, ds'.Perm ds → k (.list ds')
  | _ => False
theorem mo_sortedT : Mo1 oSorted_tups := fun a k k' w h => by cases a <;> first | exact h.elim | exact ⟨h.1, fun ds' p => w _ (h.2 ds' p)⟩
theorem callr_sortedT : CallR X (.builtin "sorted") (fun xs H Q => ∃ x, xs = [x] ∧ rO1 X.K (pF X.K) oSorted_tups x H Q) := by
  intro pins s σ H xs us Q I r h
  obtain ⟨x, rfl, G, d, g, hx, q⟩ := h
  cases d <;> first | exact q.elim | skip
  rename_i c ds
  have rx := vw_rp g hx
  cases hx with
  | own h ob => cases ob
  | fro rr =>
  obtain ⟨p, vs, rfl, sq, ra, _⟩ := rp_tup rr
  obtain ⟨hall, q⟩ := q
  have nm : ∀ {vs : List V} {ds : List D}, RpAll X.K G vs ds → ds.all isPr = true → ∀ u ∈ vs, ∃ n, NameAt X.K H u n := by
    intro vs
    induction vs with
    | nil => intro ds _ _ u hu; cases hu
    | cons v vs ih =>
      intro ds r h u hu
      cases r with
      | cons r1 r2 =>
        rw [List.all_cons, Bool.and_eq_true] at h
        rcases List.mem_cons.mp hu with z | z
        · subst z; exact ⟨_, pr_name g r1 h.1⟩
        · exact ih r2 h.2 u z
  refine cr_sortedTN pins s σ H _ us Q I r ⟨p, vs, nameOf X.K H, rfl, sqT_same g sq, fun u hu => ?_, fun us' n pm pw nn => ?_⟩
  · obtain ⟨m, hm⟩ := nm ra hall u hu
    exact nameOf_at hm
  · obtain ⟨ds', pd, rs'⟩ := perm_rps pm ra
    exact newF g (q ds' pd) nn (.lst rs')
theorem se_sorted_tups {k : Nat} {p : Pos} (hK : X.K = K) (hr : Room k X.A) (hg : Gl X "sorted") (hm : X.mg "sorted" = none) (ha : SE K (fV K) X a ma) (hs : starEach [a] X.env = [(false, eval a X.env)] := by rfl) (hpl : (backTo pos (starEach [] X.env)).any (·.1) = false := by rfl) :
    SE K (fF K) X (.Call (.Name "sorted" p) [a] [] pos) (mUn oSorted_tups ma) := by
  subst hK
  exact se_b1 (id := "sorted") callr_sortedT (fun y H Q h => ⟨y, rfl, h⟩) mo_sortedT embF hg hm (by decide +kernel) ha hs (by decide) (by decide) hpl
end
/-! ### a def of one argument that gives a plain thing, whatever its promise's form -/
section
variable {P : Program} {w : World} {K : PySem.W.Frag} {mg : Str → Option Value} {base : Heap} {k : Nat} {f : Addr} {fd : FuncData}
theorem fnG_weak {CX : CXT} {ps : List Str} {sp sp' : Sp} (F : FnG P w K mg base CX k f fd ps sp) (wk : ∀ vs H Q E, sp' vs H Q E → sp vs H Q E) : FnG P w K mg base CX k f fd ps sp' :=
  ⟨fun vs H Q E h => F.many vs H Q E (wk _ _ _ _ h), fun Ar out st H as us vs Q E g hr e0 hb r h => F.runs Ar out st H as us vs Q E g hr e0 hb r (wk _ _ _ _ h)⟩
def F_look (ok : D → Prop) (g : D → Str) : Fs := fun cs k => ∃ d, cs = [.fro d] ∧ ok d ∧ k (.str (g d)) []
theorem fnD_look {ok : D → Prop} {g : D → Str} {x : Str} {sp : Sp} (F : FnG P w K mg base CX0 k f fd [x] sp)
    (wk : ∀ (v : V) (d : D) (H : Hp) (Q : VK) (E : XK), Rp K H v d → ok d → (∀ H', Same H H' → Q (.str (g d)) H') → sp [v] H Q E) : FnD P w K mg base k f fd [x] 0 (F_look ok g) := by
  refine ⟨fnG_weak F fun vs H Q E ⟨hl, G, cs, R, d, hcs, od, q⟩ => ?_, fun cs k k' w ⟨d, h1, h2, h3⟩ => ⟨d, h1, h2, w _ _ h3⟩, fun cs k ⟨d, h1, _⟩ => by rw [h1]; rfl, Nat.zero_le _⟩
  subst hcs
  match vs, hl with
  | [v], _ =>
    obtain ⟨v', e, r⟩ := R.fro 0 d rfl
    cases e
    refine wk v d H Q E (rp_same R.gh r) od fun H' s => q _ G H' (R.gh.trans s) ⟨R.gh.trans s, rfl, fun i d e => ?_, fun i d e => ?_, fun i j p d c e => ?_⟩ ⟨Same.refl _, fun a o _ e => s a o e, fun _ _ _ _ g _ => g, fun a e => ?_⟩ (.str _)
    · cases e
    · cases e
    · cases e
    · cases z : H a with
      | none => rfl
      | some o => rw [s a o z] at e; cases e
end
end Dl

set_option Elab.async false
set_option linter.all false
set_option maxRecDepth 100000
set_option maxHeartbeats 4000000
/-! Parts of deeds go in order. -/
namespace K05
open PySem PySem.Spec PyProof.Rows L2 Br
def top (i : Nat) : Stmt := PySem.Challenge.pw_branchedhall_k05_whole_parts_go_in_order.main.body.getD i (.Pass ⟨0, 0, 0, 0⟩)
abbrev s_is_whole : Stmt := top 10
theorem sc_is_whole : FnScope ["thing"] ["thing"] (defScope s_is_whole) := ⟨rfl, rfl, rfl, by decide +kernel, rfl, by decide +kernel, by decide +kernel⟩
abbrev s_is_word : Stmt := top 11
theorem sc_is_word : FnScope ["thing"] ["thing"] (defScope s_is_word) := ⟨rfl, rfl, rfl, by decide +kernel, rfl, by decide +kernel, by decide +kernel⟩
abbrev s_is_person : Stmt := top 12
theorem sc_is_person : FnScope ["thing", "word", "at", "house"] ["thing"] (defScope s_is_person) := ⟨rfl, rfl, rfl, by decide +kernel, rfl, by decide +kernel, by decide +kernel⟩
abbrev s_is_name : Stmt := top 13
theorem sc_is_name : FnScope ["thing", "house", "number"] ["thing"] (defScope s_is_name) := ⟨rfl, rfl, rfl, by decide +kernel, rfl, by decide +kernel, by decide +kernel⟩
abbrev s_is_rank : Stmt := top 14
theorem sc_is_rank : FnScope ["thing"] ["thing"] (defScope s_is_rank) := ⟨rfl, rfl, rfl, by decide +kernel, rfl, by decide +kernel, by decide +kernel⟩
abbrev s_house_of : Stmt := top 15
theorem sc_house_of : FnScope ["person"] ["person"] (defScope s_house_of) := ⟨rfl, rfl, rfl, by decide +kernel, rfl, by decide +kernel, by decide +kernel⟩
abbrev s_is_one_of : Stmt := top 29
theorem sc_is_one_of : FnScope ["thing", "texts"] ["thing", "texts"] (defScope s_is_one_of) := ⟨rfl, rfl, rfl, by decide +kernel, rfl, by decide +kernel, by decide +kernel⟩
abbrev s_is_pair : Stmt := top 30
theorem sc_is_pair : FnScope ["thing"] ["thing"] (defScope s_is_pair) := ⟨rfl, rfl, rfl, by decide +kernel, rfl, by decide +kernel, by decide +kernel⟩
abbrev s_is_rising : Stmt := top 31
theorem sc_is_rising : FnScope ["things", "low", "high"] ["things"] (defScope s_is_rising) := ⟨rfl, rfl, rfl, by decide +kernel, rfl, by decide +kernel, by decide +kernel⟩
abbrev s_is_rules : Stmt := top 32
theorem sc_is_rules : FnScope ["thing"] ["thing"] (defScope s_is_rules) := ⟨rfl, rfl, rfl, by decide +kernel, rfl, by decide +kernel, by decide +kernel⟩
abbrev s_is_begin_body : Stmt := top 33
theorem sc_is_begin_body : FnScope ["body"] ["body"] (defScope s_is_begin_body) := ⟨rfl, rfl, rfl, by decide +kernel, rfl, by decide +kernel, by decide +kernel⟩
abbrev s_is_seat_body : Stmt := top 34
theorem sc_is_seat_body : FnScope ["body"] ["body"] (defScope s_is_seat_body) := ⟨rfl, rfl, rfl, by decide +kernel, rfl, by decide +kernel, by decide +kernel⟩
abbrev s_is_wanted_word : Stmt := top 35
theorem sc_is_wanted_word : FnScope ["thing"] ["thing"] (defScope s_is_wanted_word) := ⟨rfl, rfl, rfl, by decide +kernel, rfl, by decide +kernel, by decide +kernel⟩
abbrev s_is_ranking : Stmt := top 36
theorem sc_is_ranking : FnScope ["rows", "is_ranked", "row"] ["rows", "is_ranked"] (defScope s_is_ranking) := ⟨rfl, rfl, rfl, by decide +kernel, rfl, by decide +kernel, by decide +kernel⟩
abbrev s_is_ranks_body : Stmt := top 37
theorem sc_is_ranks_body : FnScope ["body"] ["body"] (defScope s_is_ranks_body) := ⟨rfl, rfl, rfl, by decide +kernel, rfl, by decide +kernel, by decide +kernel⟩
abbrev s_is_door_body : Stmt := top 38
theorem sc_is_door_body : FnScope ["body"] ["body"] (defScope s_is_door_body) := ⟨rfl, rfl, rfl, by decide +kernel, rfl, by decide +kernel, by decide +kernel⟩
abbrev s_is_say_body : Stmt := top 39
theorem sc_is_say_body : FnScope ["body"] ["body"] (defScope s_is_say_body) := ⟨rfl, rfl, rfl, by decide +kernel, rfl, by decide +kernel, by decide +kernel⟩
abbrev s_is_strike_body : Stmt := top 40
theorem sc_is_strike_body : FnScope ["body"] ["body"] (defScope s_is_strike_body) := ⟨rfl, rfl, rfl, by decide +kernel, rfl, by decide +kernel, by decide +kernel⟩
abbrev s_is_body : Stmt := top 42
theorem sc_is_body : FnScope ["kind", "body", "is_fit"] ["kind", "body"] (defScope s_is_body) := ⟨rfl, rfl, rfl, by decide +kernel, rfl, by decide +kernel, by decide +kernel⟩
abbrev s_is_about : Stmt := top 43
theorem sc_is_about : FnScope ["kind", "about"] ["kind", "about"] (defScope s_is_about) := ⟨rfl, rfl, rfl, by decide +kernel, rfl, by decide +kernel, by decide +kernel⟩
abbrev s_is_names : Stmt := top 44
theorem sc_is_names : FnScope ["kind", "own", "names", "ahead", "name"] ["kind", "own", "names"] (defScope s_is_names) := ⟨rfl, rfl, rfl, by decide +kernel, rfl, by decide +kernel, by decide +kernel⟩
abbrev s_wrong_part : Stmt := top 45
theorem sc_wrong_part : FnScope ["deed", "name", "kind", "who", "about", "body", "after", "leave"] ["deed"] (defScope s_wrong_part) := ⟨rfl, rfl, rfl, by decide +kernel, rfl, by decide +kernel, by decide +kernel⟩
abbrev s_look_at_deed : Stmt := top 46
theorem sc_look_at_deed : FnScope ["thing", "part"] ["thing"] (defScope s_look_at_deed) := ⟨rfl, rfl, rfl, by decide +kernel, rfl, by decide +kernel, by decide +kernel⟩
abbrev s_key_of : Stmt := top 47
theorem sc_key_of : FnScope ["deed", "kind"] ["deed"] (defScope s_key_of) := ⟨rfl, rfl, rfl, by decide +kernel, rfl, by decide +kernel, by decide +kernel⟩
abbrev s_law_pool : Stmt := top 49
theorem sc_law_pool : FnScope ["_law_script", "_law_k", "_law_cell", "_law_size", "_law_mixed"] ["_law_script", "_law_k"] (defScope s_law_pool) := ⟨rfl, rfl, rfl, by decide +kernel, rfl, by decide +kernel, by decide +kernel⟩
abbrev s_law_take : Stmt := top 50
theorem sc_law_take : FnScope ["_law_pool_here", "_law_many", "_law_found"] ["_law_pool_here", "_law_many"] (defScope s_law_take) := ⟨rfl, rfl, rfl, by decide +kernel, rfl, by decide +kernel, by decide +kernel⟩
abbrev s_law_letters : Stmt := top 51
theorem sc_law_letters : FnScope ["_law_pool_here", "_law_many", "_law_letters_here", "_law_turn"] ["_law_pool_here", "_law_many"] (defScope s_law_letters) := ⟨rfl, rfl, rfl, by decide +kernel, rfl, by decide +kernel, by decide +kernel⟩
abbrev s_law_folk : Stmt := top 52
theorem sc_law_folk : FnScope ["_law_pool_here", "_law_many", "_law_homes", "_law_turn", "_law_found", "_law_k", "_law_one", "_law_parts"] ["_law_pool_here", "_law_many"] (defScope s_law_folk) := ⟨rfl, rfl, rfl, by decide +kernel, rfl, by decide +kernel, by decide +kernel⟩
abbrev s_law_title : Stmt := top 53
theorem sc_law_title : FnScope ["_law_pool_here", "_law_home"] ["_law_pool_here", "_law_home"] (defScope s_law_title) := ⟨rfl, rfl, rfl, by decide +kernel, rfl, by decide +kernel, by decide +kernel⟩
abbrev s_law_titles : Stmt := top 54
theorem sc_law_titles : FnScope ["_law_pool_here", "_law_own", "_law_most", "_law_found", "_law_turn", "_law_one"] ["_law_pool_here", "_law_own", "_law_most"] (defScope s_law_titles) := ⟨rfl, rfl, rfl, by decide +kernel, rfl, by decide +kernel, by decide +kernel⟩
abbrev s_law_rank_rows : Stmt := top 55
theorem sc_law_rank_rows : FnScope ["_law_pool_here", "_law_folk_here", "_law_ranks", "_law_some", "_law_one", "_law_words", "_law_word"] ["_law_pool_here", "_law_folk_here"] (defScope s_law_rank_rows) := ⟨rfl, rfl, rfl, by decide +kernel, rfl, by decide +kernel, by decide +kernel⟩
abbrev s_law_content : Stmt := top 56
theorem sc_law_content : FnScope ["_law_pool_here", "_law_sort", "_law_folk_here", "_law_title_here", "_law_signs", "_law_turn"] ["_law_pool_here", "_law_sort", "_law_folk_here", "_law_title_here"] (defScope s_law_content) := ⟨rfl, rfl, rfl, by decide +kernel, rfl, by decide +kernel, by decide +kernel⟩
abbrev s_law_drawn : Stmt := top 57
theorem sc_law_drawn : FnScope ["_law_pool_here", "_law_folk_here", "_law_sort", "_law_title_here", "_law_about", "_law_content_here"] ["_law_pool_here"] (defScope s_law_drawn) := ⟨rfl, rfl, rfl, by decide +kernel, rfl, by decide +kernel, by decide +kernel⟩
abbrev s_law_told : Stmt := top 58
theorem sc_law_told : FnScope ["_law_item", "_law_kept", "_law_found", "e"] ["_law_item"] (defScope s_law_told) := ⟨rfl, rfl, rfl, by decide +kernel, rfl, by decide +kernel, by decide +kernel⟩
abbrev s_law_bad : Stmt := top 59
theorem sc_law_bad : FnScope ["_law_pool_here", "_law_item", "_law_at"] ["_law_pool_here", "_law_item", "_law_at"] (defScope s_law_bad) := ⟨rfl, rfl, rfl, by decide +kernel, rfl, by decide +kernel, by decide +kernel⟩
abbrev s_law_right : Stmt := top 60
theorem sc_law_right : FnScope ["_law_pool_here", "_law_item", "_law_parts", "_law_bent", "_law_first", "_law_turn", "_law_at", "_law_other"] ["_law_pool_here", "_law_item"] (defScope s_law_right) := ⟨rfl, rfl, rfl, by decide +kernel, rfl, by decide +kernel, by decide +kernel⟩
abbrev s_law : Stmt := top 61
theorem sc_law : FnScope ["_law_script", "_law_k", "_law_pool_here", "_law_item", "_law_due", "_law_turn"] ["_law_script"] (defScope s_law) := ⟨rfl, rfl, rfl, by decide +kernel, rfl, by decide +kernel, by decide +kernel⟩
/-- what the top has left -/
structure Txt (K : PySem.W.Frag) (mg : Str → Option Value) where
  f_is_whole : Addr
  d_is_whole : FuncData
  F_is_whole : Fun K "is_whole" "is_whole" s_is_whole f_is_whole d_is_whole
  b_is_whole : Binds K d_is_whole ["thing"] []
  kw_is_whole : ∀ (s : Shared) (ws : List Value), ws.length = 1 → BindsTo s d_is_whole ⟨[], (["thing"] : List Str).zip ws⟩ ((["thing"] : List Str).zip ws)
  m_is_whole : mg "is_whole" = some (.ref f_is_whole)
  f_is_word : Addr
  d_is_word : FuncData
  F_is_word : Fun K "is_word" "is_word" s_is_word f_is_word d_is_word
  b_is_word : Binds K d_is_word ["thing"] []
  kw_is_word : ∀ (s : Shared) (ws : List Value), ws.length = 1 → BindsTo s d_is_word ⟨[], (["thing"] : List Str).zip ws⟩ ((["thing"] : List Str).zip ws)
  m_is_word : mg "is_word" = some (.ref f_is_word)
  f_is_person : Addr
  d_is_person : FuncData
  F_is_person : Fun K "is_person" "is_person" s_is_person f_is_person d_is_person
  b_is_person : Binds K d_is_person ["thing"] []
  kw_is_person : ∀ (s : Shared) (ws : List Value), ws.length = 1 → BindsTo s d_is_person ⟨[], (["thing"] : List Str).zip ws⟩ ((["thing"] : List Str).zip ws)
  m_is_person : mg "is_person" = some (.ref f_is_person)
  f_is_name : Addr
  d_is_name : FuncData
  F_is_name : Fun K "is_name" "is_name" s_is_name f_is_name d_is_name
  b_is_name : Binds K d_is_name ["thing"] []
  kw_is_name : ∀ (s : Shared) (ws : List Value), ws.length = 1 → BindsTo s d_is_name ⟨[], (["thing"] : List Str).zip ws⟩ ((["thing"] : List Str).zip ws)
  m_is_name : mg "is_name" = some (.ref f_is_name)
  f_is_rank : Addr
  d_is_rank : FuncData
  F_is_rank : Fun K "is_rank" "is_rank" s_is_rank f_is_rank d_is_rank
  b_is_rank : Binds K d_is_rank ["thing"] []
  kw_is_rank : ∀ (s : Shared) (ws : List Value), ws.length = 1 → BindsTo s d_is_rank ⟨[], (["thing"] : List Str).zip ws⟩ ((["thing"] : List Str).zip ws)
  m_is_rank : mg "is_rank" = some (.ref f_is_rank)
  f_house_of : Addr
  d_house_of : FuncData
  F_house_of : Fun K "house_of" "house_of" s_house_of f_house_of d_house_of
  b_house_of : Binds K d_house_of ["person"] []
  kw_house_of : ∀ (s : Shared) (ws : List Value), ws.length = 1 → BindsTo s d_house_of ⟨[], (["person"] : List Str).zip ws⟩ ((["person"] : List Str).zip ws)
  m_house_of : mg "house_of" = some (.ref f_house_of)
  f_is_one_of : Addr
  d_is_one_of : FuncData
  F_is_one_of : Fun K "is_one_of" "is_one_of" s_is_one_of f_is_one_of d_is_one_of
  b_is_one_of : Binds K d_is_one_of ["thing", "texts"] []
  kw_is_one_of : ∀ (s : Shared) (ws : List Value), ws.length = 2 → BindsTo s d_is_one_of ⟨[], (["thing", "texts"] : List Str).zip ws⟩ ((["thing", "texts"] : List Str).zip ws)
  m_is_one_of : mg "is_one_of" = some (.ref f_is_one_of)
  f_is_pair : Addr
  d_is_pair : FuncData
  F_is_pair : Fun K "is_pair" "is_pair" s_is_pair f_is_pair d_is_pair
  b_is_pair : Binds K d_is_pair ["thing"] []
  kw_is_pair : ∀ (s : Shared) (ws : List Value), ws.length = 1 → BindsTo s d_is_pair ⟨[], (["thing"] : List Str).zip ws⟩ ((["thing"] : List Str).zip ws)
  m_is_pair : mg "is_pair" = some (.ref f_is_pair)
  f_is_rising : Addr
  d_is_rising : FuncData
  F_is_rising : Fun K "is_rising" "is_rising" s_is_rising f_is_rising d_is_rising
  b_is_rising : Binds K d_is_rising ["things"] []
  kw_is_rising : ∀ (s : Shared) (ws : List Value), ws.length = 1 → BindsTo s d_is_rising ⟨[], (["things"] : List Str).zip ws⟩ ((["things"] : List Str).zip ws)
  m_is_rising : mg "is_rising" = some (.ref f_is_rising)
  f_is_rules : Addr
  d_is_rules : FuncData
  F_is_rules : Fun K "is_rules" "is_rules" s_is_rules f_is_rules d_is_rules
  b_is_rules : Binds K d_is_rules ["thing"] []
  kw_is_rules : ∀ (s : Shared) (ws : List Value), ws.length = 1 → BindsTo s d_is_rules ⟨[], (["thing"] : List Str).zip ws⟩ ((["thing"] : List Str).zip ws)
  m_is_rules : mg "is_rules" = some (.ref f_is_rules)
  f_is_begin_body : Addr
  d_is_begin_body : FuncData
  F_is_begin_body : Fun K "is_begin_body" "is_begin_body" s_is_begin_body f_is_begin_body d_is_begin_body
  b_is_begin_body : Binds K d_is_begin_body ["body"] []
  kw_is_begin_body : ∀ (s : Shared) (ws : List Value), ws.length = 1 → BindsTo s d_is_begin_body ⟨[], (["body"] : List Str).zip ws⟩ ((["body"] : List Str).zip ws)
  m_is_begin_body : mg "is_begin_body" = some (.ref f_is_begin_body)
  f_is_seat_body : Addr
  d_is_seat_body : FuncData
  F_is_seat_body : Fun K "is_seat_body" "is_seat_body" s_is_seat_body f_is_seat_body d_is_seat_body
  b_is_seat_body : Binds K d_is_seat_body ["body"] []
  kw_is_seat_body : ∀ (s : Shared) (ws : List Value), ws.length = 1 → BindsTo s d_is_seat_body ⟨[], (["body"] : List Str).zip ws⟩ ((["body"] : List Str).zip ws)
  m_is_seat_body : mg "is_seat_body" = some (.ref f_is_seat_body)
  f_is_wanted_word : Addr
  d_is_wanted_word : FuncData
  F_is_wanted_word : Fun K "is_wanted_word" "is_wanted_word" s_is_wanted_word f_is_wanted_word d_is_wanted_word
  b_is_wanted_word : Binds K d_is_wanted_word ["thing"] []
  kw_is_wanted_word : ∀ (s : Shared) (ws : List Value), ws.length = 1 → BindsTo s d_is_wanted_word ⟨[], (["thing"] : List Str).zip ws⟩ ((["thing"] : List Str).zip ws)
  m_is_wanted_word : mg "is_wanted_word" = some (.ref f_is_wanted_word)
  f_is_ranking : Addr
  d_is_ranking : FuncData
  F_is_ranking : Fun K "is_ranking" "is_ranking" s_is_ranking f_is_ranking d_is_ranking
  b_is_ranking : Binds K d_is_ranking ["rows", "is_ranked"] []
  kw_is_ranking : ∀ (s : Shared) (ws : List Value), ws.length = 2 → BindsTo s d_is_ranking ⟨[], (["rows", "is_ranked"] : List Str).zip ws⟩ ((["rows", "is_ranked"] : List Str).zip ws)
  m_is_ranking : mg "is_ranking" = some (.ref f_is_ranking)
  f_is_ranks_body : Addr
  d_is_ranks_body : FuncData
  F_is_ranks_body : Fun K "is_ranks_body" "is_ranks_body" s_is_ranks_body f_is_ranks_body d_is_ranks_body
  b_is_ranks_body : Binds K d_is_ranks_body ["body"] []
  kw_is_ranks_body : ∀ (s : Shared) (ws : List Value), ws.length = 1 → BindsTo s d_is_ranks_body ⟨[], (["body"] : List Str).zip ws⟩ ((["body"] : List Str).zip ws)
  m_is_ranks_body : mg "is_ranks_body" = some (.ref f_is_ranks_body)
  f_is_door_body : Addr
  d_is_door_body : FuncData
  F_is_door_body : Fun K "is_door_body" "is_door_body" s_is_door_body f_is_door_body d_is_door_body
  b_is_door_body : Binds K d_is_door_body ["body"] []
  kw_is_door_body : ∀ (s : Shared) (ws : List Value), ws.length = 1 → BindsTo s d_is_door_body ⟨[], (["body"] : List Str).zip ws⟩ ((["body"] : List Str).zip ws)
  m_is_door_body : mg "is_door_body" = some (.ref f_is_door_body)
  f_is_say_body : Addr
  d_is_say_body : FuncData
  F_is_say_body : Fun K "is_say_body" "is_say_body" s_is_say_body f_is_say_body d_is_say_body
  b_is_say_body : Binds K d_is_say_body ["body"] []
  kw_is_say_body : ∀ (s : Shared) (ws : List Value), ws.length = 1 → BindsTo s d_is_say_body ⟨[], (["body"] : List Str).zip ws⟩ ((["body"] : List Str).zip ws)
  m_is_say_body : mg "is_say_body" = some (.ref f_is_say_body)
  f_is_strike_body : Addr
  d_is_strike_body : FuncData
  F_is_strike_body : Fun K "is_strike_body" "is_strike_body" s_is_strike_body f_is_strike_body d_is_strike_body
  b_is_strike_body : Binds K d_is_strike_body ["body"] []
  kw_is_strike_body : ∀ (s : Shared) (ws : List Value), ws.length = 1 → BindsTo s d_is_strike_body ⟨[], (["body"] : List Str).zip ws⟩ ((["body"] : List Str).zip ws)
  m_is_strike_body : mg "is_strike_body" = some (.ref f_is_strike_body)
  f_is_body : Addr
  d_is_body : FuncData
  F_is_body : Fun K "is_body" "is_body" s_is_body f_is_body d_is_body
  b_is_body : Binds K d_is_body ["kind", "body"] []
  kw_is_body : ∀ (s : Shared) (ws : List Value), ws.length = 2 → BindsTo s d_is_body ⟨[], (["kind", "body"] : List Str).zip ws⟩ ((["kind", "body"] : List Str).zip ws)
  m_is_body : mg "is_body" = some (.ref f_is_body)
  f_is_about : Addr
  d_is_about : FuncData
  F_is_about : Fun K "is_about" "is_about" s_is_about f_is_about d_is_about
  b_is_about : Binds K d_is_about ["kind", "about"] []
  kw_is_about : ∀ (s : Shared) (ws : List Value), ws.length = 2 → BindsTo s d_is_about ⟨[], (["kind", "about"] : List Str).zip ws⟩ ((["kind", "about"] : List Str).zip ws)
  m_is_about : mg "is_about" = some (.ref f_is_about)
  f_is_names : Addr
  d_is_names : FuncData
  F_is_names : Fun K "is_names" "is_names" s_is_names f_is_names d_is_names
  b_is_names : Binds K d_is_names ["kind", "own", "names"] []
  kw_is_names : ∀ (s : Shared) (ws : List Value), ws.length = 3 → BindsTo s d_is_names ⟨[], (["kind", "own", "names"] : List Str).zip ws⟩ ((["kind", "own", "names"] : List Str).zip ws)
  m_is_names : mg "is_names" = some (.ref f_is_names)
  f_wrong_part : Addr
  d_wrong_part : FuncData
  F_wrong_part : Fun K "wrong_part" "wrong_part" s_wrong_part f_wrong_part d_wrong_part
  b_wrong_part : Binds K d_wrong_part ["deed"] []
  kw_wrong_part : ∀ (s : Shared) (ws : List Value), ws.length = 1 → BindsTo s d_wrong_part ⟨[], (["deed"] : List Str).zip ws⟩ ((["deed"] : List Str).zip ws)
  m_wrong_part : mg "wrong_part" = some (.ref f_wrong_part)
  f_look_at_deed : Addr
  d_look_at_deed : FuncData
  F_look_at_deed : Fun K "look_at_deed" "look_at_deed" s_look_at_deed f_look_at_deed d_look_at_deed
  b_look_at_deed : Binds K d_look_at_deed ["thing"] []
  kw_look_at_deed : ∀ (s : Shared) (ws : List Value), ws.length = 1 → BindsTo s d_look_at_deed ⟨[], (["thing"] : List Str).zip ws⟩ ((["thing"] : List Str).zip ws)
  m_look_at_deed : mg "look_at_deed" = some (.ref f_look_at_deed)
  f_key_of : Addr
  d_key_of : FuncData
  F_key_of : Fun K "key_of" "key_of" s_key_of f_key_of d_key_of
  b_key_of : Binds K d_key_of ["deed"] []
  kw_key_of : ∀ (s : Shared) (ws : List Value), ws.length = 1 → BindsTo s d_key_of ⟨[], (["deed"] : List Str).zip ws⟩ ((["deed"] : List Str).zip ws)
  m_key_of : mg "key_of" = some (.ref f_key_of)
  f_law_pool : Addr
  d_law_pool : FuncData
  F_law_pool : Fun K "_law_pool" "_law_pool" s_law_pool f_law_pool d_law_pool
  b_law_pool : Binds K d_law_pool ["_law_script", "_law_k"] []
  kw_law_pool : ∀ (s : Shared) (ws : List Value), ws.length = 2 → BindsTo s d_law_pool ⟨[], (["_law_script", "_law_k"] : List Str).zip ws⟩ ((["_law_script", "_law_k"] : List Str).zip ws)
  m_law_pool : mg "_law_pool" = some (.ref f_law_pool)
  f_law_take : Addr
  d_law_take : FuncData
  F_law_take : Fun K "_law_take" "_law_take" s_law_take f_law_take d_law_take
  b_law_take : Binds K d_law_take ["_law_pool_here", "_law_many"] []
  kw_law_take : ∀ (s : Shared) (ws : List Value), ws.length = 2 → BindsTo s d_law_take ⟨[], (["_law_pool_here", "_law_many"] : List Str).zip ws⟩ ((["_law_pool_here", "_law_many"] : List Str).zip ws)
  m_law_take : mg "_law_take" = some (.ref f_law_take)
  f_law_letters : Addr
  d_law_letters : FuncData
  F_law_letters : Fun K "_law_letters" "_law_letters" s_law_letters f_law_letters d_law_letters
  b_law_letters : Binds K d_law_letters ["_law_pool_here", "_law_many"] []
  kw_law_letters : ∀ (s : Shared) (ws : List Value), ws.length = 2 → BindsTo s d_law_letters ⟨[], (["_law_pool_here", "_law_many"] : List Str).zip ws⟩ ((["_law_pool_here", "_law_many"] : List Str).zip ws)
  m_law_letters : mg "_law_letters" = some (.ref f_law_letters)
  f_law_folk : Addr
  d_law_folk : FuncData
  F_law_folk : Fun K "_law_folk" "_law_folk" s_law_folk f_law_folk d_law_folk
  b_law_folk : Binds K d_law_folk ["_law_pool_here", "_law_many"] []
  kw_law_folk : ∀ (s : Shared) (ws : List Value), ws.length = 2 → BindsTo s d_law_folk ⟨[], (["_law_pool_here", "_law_many"] : List Str).zip ws⟩ ((["_law_pool_here", "_law_many"] : List Str).zip ws)
  m_law_folk : mg "_law_folk" = some (.ref f_law_folk)
  f_law_title : Addr
  d_law_title : FuncData
  F_law_title : Fun K "_law_title" "_law_title" s_law_title f_law_title d_law_title
  b_law_title : Binds K d_law_title ["_law_pool_here", "_law_home"] []
  kw_law_title : ∀ (s : Shared) (ws : List Value), ws.length = 2 → BindsTo s d_law_title ⟨[], (["_law_pool_here", "_law_home"] : List Str).zip ws⟩ ((["_law_pool_here", "_law_home"] : List Str).zip ws)
  m_law_title : mg "_law_title" = some (.ref f_law_title)
  f_law_titles : Addr
  d_law_titles : FuncData
  F_law_titles : Fun K "_law_titles" "_law_titles" s_law_titles f_law_titles d_law_titles
  b_law_titles : Binds K d_law_titles ["_law_pool_here", "_law_own", "_law_most"] []
  kw_law_titles : ∀ (s : Shared) (ws : List Value), ws.length = 3 → BindsTo s d_law_titles ⟨[], (["_law_pool_here", "_law_own", "_law_most"] : List Str).zip ws⟩ ((["_law_pool_here", "_law_own", "_law_most"] : List Str).zip ws)
  m_law_titles : mg "_law_titles" = some (.ref f_law_titles)
  f_law_rank_rows : Addr
  d_law_rank_rows : FuncData
  F_law_rank_rows : Fun K "_law_rank_rows" "_law_rank_rows" s_law_rank_rows f_law_rank_rows d_law_rank_rows
  b_law_rank_rows : Binds K d_law_rank_rows ["_law_pool_here", "_law_folk_here"] []
  kw_law_rank_rows : ∀ (s : Shared) (ws : List Value), ws.length = 2 → BindsTo s d_law_rank_rows ⟨[], (["_law_pool_here", "_law_folk_here"] : List Str).zip ws⟩ ((["_law_pool_here", "_law_folk_here"] : List Str).zip ws)
  m_law_rank_rows : mg "_law_rank_rows" = some (.ref f_law_rank_rows)
  f_law_content : Addr
  d_law_content : FuncData
  F_law_content : Fun K "_law_content" "_law_content" s_law_content f_law_content d_law_content
  b_law_content : Binds K d_law_content ["_law_pool_here", "_law_sort", "_law_folk_here", "_law_title_here"] []
  kw_law_content : ∀ (s : Shared) (ws : List Value), ws.length = 4 → BindsTo s d_law_content ⟨[], (["_law_pool_here", "_law_sort", "_law_folk_here", "_law_title_here"] : List Str).zip ws⟩ ((["_law_pool_here", "_law_sort", "_law_folk_here", "_law_title_here"] : List Str).zip ws)
  m_law_content : mg "_law_content" = some (.ref f_law_content)
  f_law_drawn : Addr
  d_law_drawn : FuncData
  F_law_drawn : Fun K "_law_drawn" "_law_drawn" s_law_drawn f_law_drawn d_law_drawn
  b_law_drawn : Binds K d_law_drawn ["_law_pool_here"] []
  kw_law_drawn : ∀ (s : Shared) (ws : List Value), ws.length = 1 → BindsTo s d_law_drawn ⟨[], (["_law_pool_here"] : List Str).zip ws⟩ ((["_law_pool_here"] : List Str).zip ws)
  m_law_drawn : mg "_law_drawn" = some (.ref f_law_drawn)
  f_law_told : Addr
  d_law_told : FuncData
  F_law_told : Fun K "_law_told" "_law_told" s_law_told f_law_told d_law_told
  b_law_told : Binds K d_law_told ["_law_item"] []
  kw_law_told : ∀ (s : Shared) (ws : List Value), ws.length = 1 → BindsTo s d_law_told ⟨[], (["_law_item"] : List Str).zip ws⟩ ((["_law_item"] : List Str).zip ws)
  m_law_told : mg "_law_told" = some (.ref f_law_told)
  f_law_bad : Addr
  d_law_bad : FuncData
  F_law_bad : Fun K "_law_bad" "_law_bad" s_law_bad f_law_bad d_law_bad
  b_law_bad : Binds K d_law_bad ["_law_pool_here", "_law_item", "_law_at"] []
  kw_law_bad : ∀ (s : Shared) (ws : List Value), ws.length = 3 → BindsTo s d_law_bad ⟨[], (["_law_pool_here", "_law_item", "_law_at"] : List Str).zip ws⟩ ((["_law_pool_here", "_law_item", "_law_at"] : List Str).zip ws)
  m_law_bad : mg "_law_bad" = some (.ref f_law_bad)
  f_law_right : Addr
  d_law_right : FuncData
  F_law_right : Fun K "_law_right" "_law_right" s_law_right f_law_right d_law_right
  b_law_right : Binds K d_law_right ["_law_pool_here", "_law_item"] []
  kw_law_right : ∀ (s : Shared) (ws : List Value), ws.length = 2 → BindsTo s d_law_right ⟨[], (["_law_pool_here", "_law_item"] : List Str).zip ws⟩ ((["_law_pool_here", "_law_item"] : List Str).zip ws)
  m_law_right : mg "_law_right" = some (.ref f_law_right)
  f_law : Addr
  d_law : FuncData
  F_law : Fun K "law" "law" s_law f_law d_law
  b_law : Binds K d_law ["_law_script"] []
  kw_law : ∀ (s : Shared) (ws : List Value), ws.length = 1 → BindsTo s d_law ⟨[], (["_law_script"] : List Str).zip ws⟩ ((["_law_script"] : List Str).zip ws)
  m_law : mg "law" = some (.ref f_law)
  t_LONGEST_WORD : Tok
  c_LONGEST_WORD : mg "LONGEST_WORD" = some (.int 8 t_LONGEST_WORD)
  t_GREATEST_NUMBER : Tok
  c_GREATEST_NUMBER : mg "GREATEST_NUMBER" = some (.int 99999 t_GREATEST_NUMBER)
  t_GREATEST_RANK : Tok
  c_GREATEST_RANK : mg "GREATEST_RANK" = some (.int 100 t_GREATEST_RANK)
  t_KIND : Tok
  c_KIND : mg "KIND" = some (.int 1 t_KIND)
  t_ABOUT : Tok
  c_ABOUT : mg "ABOUT" = some (.int 3 t_ABOUT)
  t_MOST_PEOPLE : Tok
  c_MOST_PEOPLE : mg "MOST_PEOPLE" = some (.int 20 t_MOST_PEOPLE)
  t_MOST_SIGNS : Tok
  c_MOST_SIGNS : mg "MOST_SIGNS" = some (.int 80 t_MOST_SIGNS)
  t_MOST_NAMES : Tok
  c_MOST_NAMES : mg "MOST_NAMES" = some (.int 6 t_MOST_NAMES)
  z_ValueError : mg "ValueError" = none
  z_all : mg "all" = none
  z_bool : mg "bool" = none
  z_int : mg "int" = none
  z_isinstance : mg "isinstance" = none
  z_len : mg "len" = none
  z_list : mg "list" = none
  z_max : mg "max" = none
  z_min : mg "min" = none
  z_range : mg "range" = none
  z_repr : mg "repr" = none
  z_sorted : mg "sorted" = none
  z_str : mg "str" = none
  z_tuple : mg "tuple" = none
  z_zip : mg "zip" = none
end K05

namespace K05
open PySem PySem.Spec PyProof.Rows L2 Br
/-! ### what the looks tell, of plain data -/
def lettersD : PyData → Bool
  | .str z => lettersS z
  | _ => false
def wordD : PyData → Bool
  | .str z => wordS z
  | _ => false
def personD : PyData → Bool
  | .str z => personS z
  | _ => false
def withinD (lo hi : Int) : PyData → Bool
  | .int i => decide (lo ≤ i) && decide (i ≤ hi)
  | _ => false
def nameD : PyData → Bool
  | .tuple [a, b] => wordD a && withinD 0 99999 b
  | _ => false
def okS (z : Str) : Bool := decide (z.length ≤ 1000) && z.cps.toList.all fun c => decide (c < 128)
def asc (z : Str) : Prop := ∀ c ∈ z.cps.toList, c < 128
theorem okS_mk {z : Str} (h : z.length ≤ 1000) (a : asc z) : okS z = true := by
  unfold okS
  rw [decide_eq_true h, Bool.true_and]
  exact List.all_eq_true.mpr fun c hc => decide_eq_true (a c hc)
theorem okS_len {z : Str} (h : okS z = true) : z.length ≤ 1000 := of_decide_eq_true (Bool.and_eq_true_iff.mp h).1
theorem okS_asc {z : Str} (h : okS z = true) : asc z := fun c hc => of_decide_eq_true (List.all_eq_true.mp (Bool.and_eq_true_iff.mp h).2 c hc)
mutual
/-- all texts within are short and plain -/
def okD : PyData → Bool
  | .str z => okS z
  | .list ds => okAll ds && decide (ds.length ≤ 1000)
  | .tuple ds => okAll ds && decide (ds.length ≤ 1000)
  | _ => true
def okAll : List PyData → Bool
  | [] => true
  | d :: ds => okD d && okAll ds
end
theorem okAll_mem : ∀ {ds : List PyData}, okAll ds = true → ∀ d ∈ ds, okD d = true
  | [], _, d, h => nomatch h
  | e :: ds, h, d, hd => by
    obtain ⟨h1, h2⟩ := Bool.and_eq_true_iff.mp h
    rcases List.mem_cons.mp hd with z | z
    · rw [z]; exact h1
    · exact okAll_mem h2 d z
def tn : PyData → String
  | .none => "NoneType"
  | .bool _ => "bool"
  | .int _ => "int"
  | .str _ => "str"
  | .list _ => "list"
  | .tuple _ => "tuple"
  | .dict _ => "dict"

/-! ### heaps -/
theorem same_new {H : Hp} {p : Addr} {o : HO} (h : H p = none) : Same H (upd H p o) := fun b x e => (upd_ne (ne_of_none e h)).trans e
theorem same_seqT {K : PySem.W.Frag} {H H' : Hp} {a : Addr} {xs : List V} (e : Same H H') (h : SqT K H a xs) : SqT K H' a xs :=
  h.imp (fun r => r.imp (e _ _) fun ⟨o, q⟩ => ⟨o, e _ _ q⟩) id
mutual
theorem dp_same {K : PySem.W.Frag} {H H' : Hp} (e : Same H H') : ∀ (d : PyData) (v : V), Dp K H v d → Dp K H' v d
  | .none, _, .non => .non
  | .bool _, _, .bl b => .bl b
  | .int _, _, .int i => .int i
  | .str _, _, .str x => .str x
  | .list ds, _, .lst s a => .lst (e.seq s) (dps_same e ds _ a)
  | .tuple ds, _, .tup s a => .tup (same_seqT e s) (dps_same e ds _ a)
theorem dps_same {K : PySem.W.Frag} {H H' : Hp} (e : Same H H') : ∀ (ds : List PyData) (vs : List V), DpAll K H vs ds → DpAll K H' vs ds
  | [], _, .nil => .nil
  | d :: ds, _, .cons x r => .cons (dp_same e d _ x) (dps_same e ds _ r)
end
/-- a thing that may be looked at -/
inductive Th (K : PySem.W.Frag) (H : Hp) : V → PyData → Prop where
  | dp {v : V} {d : PyData} (h : Dp K H v d) (s : okD d = true) : Th K H v d
  | dict {a : Addr} (h : H a = some (.dK [])) : Th K H (.ref a) (.dict [])
theorem Th.same {K : PySem.W.Frag} {H H' : Hp} {v : V} {d : PyData} (t : Th K H v d) (e : Same H H') : Th K H' v d := by
  cases t with
  | dp h s => exact .dp (dp_same e _ _ h) s
  | dict h => exact .dict (e _ _ h)
theorem Th.ty {K : PySem.W.Frag} {H : Hp} {v : V} {d : PyData} (t : Th K H v d) : TyX K H v (.type (tn d)) := by
  cases t with
  | dict h => exact .base (.dK h)
  | dp h sm =>
    cases h with
    | non => exact .base .non
    | bl b => exact .base (.bl b)
    | int i => exact .base (.int i)
    | str x => exact .base (.str x)
    | lst s _ =>
      rcases s with (s | ⟨o, s⟩) | ⟨o, its, n, s, c, _⟩
      · exact .base (.lst s)
      · exact .base (.frz s)
      · exact .kList s c
    | tup s _ =>
      rcases s with (s | ⟨o, s⟩) | ⟨o, its, n, s, c, _⟩
      · exact .base (.tup s)
      · exact .fTuple s
      · exact .kTuple s c
def isIntD : PyData → Bool
  | .int _ => true
  | .bool _ => true
  | _ => false
def isBoolD : PyData → Bool
  | .bool _ => true
  | _ => false
def isStrD : PyData → Bool
  | .str _ => true
  | _ => false
def isTupD : PyData → Bool
  | .tuple _ => true
  | _ => false
theorem kit_int {K : PySem.W.Frag} (d : PyData) : PySem.W.kitOne K (.type (tn d)) (.type "int") = some (isIntD d) := by
  cases d with
  | none => exact kit_ty (a := "NoneType") (b := "int") (r := false) (by decide +kernel)
  | bool _ => exact kit_ty (a := "bool") (b := "int") (r := true) (by decide +kernel)
  | int _ => exact kit_ty (a := "int") (b := "int") (r := true) (by decide +kernel)
  | str _ => exact kit_ty (a := "str") (b := "int") (r := false) (by decide +kernel)
  | list _ => exact kit_ty (a := "list") (b := "int") (r := false) (by decide +kernel)
  | tuple _ => exact kit_ty (a := "tuple") (b := "int") (r := false) (by decide +kernel)
  | dict _ => exact kit_ty (a := "dict") (b := "int") (r := false) (by decide +kernel)
theorem kit_bool {K : PySem.W.Frag} (d : PyData) : PySem.W.kitOne K (.type (tn d)) (.type "bool") = some (isBoolD d) := by
  cases d with
  | none => exact kit_ty (a := "NoneType") (b := "bool") (r := false) (by decide +kernel)
  | bool _ => exact kit_ty (a := "bool") (b := "bool") (r := true) (by decide +kernel)
  | int _ => exact kit_ty (a := "int") (b := "bool") (r := false) (by decide +kernel)
  | str _ => exact kit_ty (a := "str") (b := "bool") (r := false) (by decide +kernel)
  | list _ => exact kit_ty (a := "list") (b := "bool") (r := false) (by decide +kernel)
  | tuple _ => exact kit_ty (a := "tuple") (b := "bool") (r := false) (by decide +kernel)
  | dict _ => exact kit_ty (a := "dict") (b := "bool") (r := false) (by decide +kernel)
theorem kit_str {K : PySem.W.Frag} (d : PyData) : PySem.W.kitOne K (.type (tn d)) (.type "str") = some (isStrD d) := by
  cases d with
  | none => exact kit_ty (a := "NoneType") (b := "str") (r := false) (by decide +kernel)
  | bool _ => exact kit_ty (a := "bool") (b := "str") (r := false) (by decide +kernel)
  | int _ => exact kit_ty (a := "int") (b := "str") (r := false) (by decide +kernel)
  | str _ => exact kit_ty (a := "str") (b := "str") (r := true) (by decide +kernel)
  | list _ => exact kit_ty (a := "list") (b := "str") (r := false) (by decide +kernel)
  | tuple _ => exact kit_ty (a := "tuple") (b := "str") (r := false) (by decide +kernel)
  | dict _ => exact kit_ty (a := "dict") (b := "str") (r := false) (by decide +kernel)
theorem kit_tup {K : PySem.W.Frag} (d : PyData) : PySem.W.kitOne K (.type (tn d)) (.type "tuple") = some (isTupD d) := by
  cases d with
  | none => exact kit_ty (a := "NoneType") (b := "tuple") (r := false) (by decide +kernel)
  | bool _ => exact kit_ty (a := "bool") (b := "tuple") (r := false) (by decide +kernel)
  | int _ => exact kit_ty (a := "int") (b := "tuple") (r := false) (by decide +kernel)
  | str _ => exact kit_ty (a := "str") (b := "tuple") (r := false) (by decide +kernel)
  | list _ => exact kit_ty (a := "list") (b := "tuple") (r := false) (by decide +kernel)
  | tuple _ => exact kit_ty (a := "tuple") (b := "tuple") (r := true) (by decide +kernel)
  | dict _ => exact kit_ty (a := "dict") (b := "tuple") (r := false) (by decide +kernel)

end K05

namespace K05
open PySem PySem.Spec PyProof.Rows L2 Br
/-! ### promises -/
/-- of a thing, the truth g -/
def spLook (K : PySem.W.Frag) (g : PyData → Bool) : Sp := fun vs H Q _ => ∃ (v : V) (d : PyData), vs = [v] ∧ Th K H v d ∧ ∀ H', Same H H' → Q (.bl (g d)) H'
section
variable {P : Program} {w : World} {K : PySem.W.Frag} {mg : Str → Option Value} {base : Heap}
def wholeD (d : PyData) : Bool := isIntD d && !isBoolD d
theorem ok_is_whole (T : Txt K mg) : FnOk P w K mg base CX0 1 T.f_is_whole T.d_is_whole ["thing"] (spLook K wholeD) := by
  refine T.F_is_whole.ok sc_is_whole (fun vs H Q E h => ?_) (fun cdv A outer s H vs Q E hr h => ?_)
  · obtain ⟨v, d, rfl, _⟩ := h
    rfl
  obtain ⟨v, d, rfl, ht, q⟩ := h
  refine ⟨_, (pss_one (ps_ret (pe_and (pe_callB call_isi (by rfl) T.z_isinstance (by decide +kernel) (pa_cons (pv 0) (pa_cons (pe_bltn (v := .ty "int") (by rfl) T.z_int (by decide +kernel) rfl) pa_nil))) (pe_one (pe_not (pe_callB call_isi (by rfl) T.z_isinstance (by decide +kernel) (pa_cons (pv 0) (pa_cons (pe_bltn (v := .ty "bool") (by rfl) T.z_bool (by decide +kernel) rfl) pa_nil)))))))), ?_⟩
  refine ⟨v, rfl, v, .ty "int", _, _, _, rfl, .ty _, ht.ty, kit_int d, _, rfl, ?_⟩
  have q' := q H (Same.refl H)
  unfold wholeD at q'
  cases e : isIntD d with
  | false =>
    rw [e] at q'
    exact iteF q'
  | true =>
    rw [e] at q'
    exact iteT ⟨v, rfl, v, .ty "bool", _, _, _, rfl, .ty _, ht.ty, kit_bool d, _, rfl, q'⟩

theorem nat1_lt {a b : Nat} : decide ([a] < [b]) = decide (a < b) := by
  by_cases h : a < b
  · rw [decide_eq_true h]
    exact decide_eq_true (List.Lex.rel h)
  · rw [decide_eq_false h]
    refine decide_eq_false fun z => ?_
    cases z with
    | rel q => exact h q
    | cons q => cases q
theorem le_sign (c : Nat) : (!decide ([c] < [97])) = decide (97 ≤ c) := by
  rw [nat1_lt]
  by_cases h : c < 97
  · rw [decide_eq_true h, decide_eq_false (by omega)]; rfl
  · rw [decide_eq_false h, decide_eq_true (by omega)]; rfl
theorem sign_le (c : Nat) : (!decide ([122] < [c])) = decide (c ≤ 122) := by
  rw [nat1_lt]
  by_cases h : 122 < c
  · rw [decide_eq_true h, decide_eq_false (by omega)]; rfl
  · rw [decide_eq_false h, decide_eq_true (by omega)]; rfl
theorem take_map_succ {α β : Type} (f : α → β) {xs : List α} {i : Nat} {x : α} (h : xs[i]? = some x) : (xs.take i).map f ++ [f x] = (xs.take (i + 1)).map f := by
  rw [List.take_add_one, h, List.map_append]
  rfl
theorem small_len {n : Nat} (h : n ≤ 100000) : n < sizeLine := Nat.lt_of_le_of_lt h (by decide)
end
end K05

namespace K05
open PySem PySem.Spec PyProof.Rows L2 Br
section
variable {P : Program} {w : World} {K : PySem.W.Frag} {mg : Str → Option Value} {base : Heap}
theorem Th.strq {H : Hp} {v : V} {d : PyData} (t : Th K H v d) : (∃ z, v = .str z ∧ d = .str z ∧ z.length ≤ 1000 ∧ asc z) ∨ isStrD d = false := by
  cases t with
  | dict h => exact .inr rfl
  | dp h sm =>
    cases h with
    | str z => exact .inl ⟨z, rfl, rfl, okS_len sm, okS_asc sm⟩
    | _ => exact .inr rfl
theorem Th.tupq {H : Hp} {v : V} {d : PyData} (t : Th K H v d) : (∃ a xs ds, v = .ref a ∧ d = .tuple ds ∧ SqT K H a xs ∧ DpAll K H xs ds ∧ okAll ds = true ∧ ds.length ≤ 1000) ∨ isTupD d = false := by
  cases t with
  | dict h => exact .inr rfl
  | dp h sm =>
    cases h with
    | tup s a => exact .inl ⟨_, _, _, rfl, rfl, s, a, (Bool.and_eq_true_iff.mp sm).1, of_decide_eq_true (Bool.and_eq_true_iff.mp sm).2⟩
    | _ => exact .inr rfl
theorem Th.intq {H : Hp} {v : V} {d : PyData} (t : Th K H v d) : (∃ i, v = .int i ∧ d = .int i) ∨ wholeD d = false := by
  cases t with
  | dict h => exact .inr rfl
  | dp h sm =>
    cases h with
    | int i => exact .inl ⟨i, rfl, rfl⟩
    | _ => exact .inr rfl
theorem dps_length {H : Hp} : ∀ {xs : List V} {ds : List PyData}, DpAll K H xs ds → xs.length = ds.length
  | _, _, .nil => rfl
  | _, _, .cons _ r => congrArg (· + 1) (dps_length r)
theorem dp2 {H : Hp} {xs : List V} {ds : List PyData} (h : DpAll K H xs ds) (n : xs.length = 2) : ∃ x0 x1 d0 d1, xs = [x0, x1] ∧ ds = [d0, d1] ∧ Dp K H x0 d0 ∧ Dp K H x1 d1 := by
  match h, n with
  | .cons h0 (.cons h1 .nil), _ => exact ⟨_, _, _, _, rfl, rfl, h0, h1⟩
theorem not_str {d : PyData} (h : isStrD d = false) : lettersD d = false ∧ wordD d = false ∧ personD d = false := by
  cases d with
  | str z => cases h
  | _ => exact ⟨rfl, rfl, rfl⟩
theorem ok_is_word (T : Txt K mg) : FnOk P w K mg base CX0 2 T.f_is_word T.d_is_word ["thing"] (spLook K wordD) := by
  refine T.F_is_word.ok sc_is_word (fun vs H Q E h => ?_) (fun cdv A outer s H vs Q E hr h => ?_)
  · obtain ⟨v, d, rfl, _⟩ := h
    rfl
  obtain ⟨v, d, rfl, ht, q⟩ := h
  refine ⟨_, (pss_cons (ps_if (PW.pt (pw_or (pt_not (pt_val (pe_callB call_isi (by rfl) T.z_isinstance (by decide +kernel) (pa_cons (pv 0) (pa_cons (pe_bltn (v := .ty "str") (by rfl) T.z_str (by decide +kernel) rfl) pa_nil))))) (pw_or1 (pt_cmpR op_gt (pe_callB call_len_str (by rfl) T.z_len PySem.boot_len (pa_cons (pv 0) pa_nil)) (pe_glob (v := .int 8) (by rfl) T.c_LONGEST_WORD ⟨_, rfl⟩) (nomark _)))))
      (pss_one (ps_ret pe_bl)) pss_nil)
    (pss_one (ps_ret (pe_and (pe_m0 PySem.F.slot_str_isascii PySem.F.type_str_isascii mt_isascii (pv 0)) (pe_and (pe_m0 PySem.F.slot_str_isalpha PySem.F.type_str_isalpha mt_isalpha (pv 0)) (pe_one (pe_m0 PySem.F.slot_str_islower PySem.F.type_str_islower mt_islower (pv 0)))))))), ?_⟩
  refine ⟨v, rfl, v, .ty "str", _, _, _, rfl, .ty _, ht.ty, kit_str d, _, rfl, ?_⟩
  have q' := q H (Same.refl H)
  rcases ht.strq with ⟨z, rfl, rfl, hz, ha⟩ | hn
  · refine iteF ⟨_, rfl, z, rfl, Nat.le_of_lt (small_len (by omega)), _, _, rfl, rfl, _, rfl, ?_⟩
    refine ite2 (fun c => ?_) (fun c => ?_)
    · have e : wordD (.str z) = false := by
        have := of_decide_eq_true c
        show (lettersS z && decide (z.length ≤ 8)) = false
        rw [decide_eq_false (show ¬ z.length ≤ 8 by omega), Bool.and_false]
      rw [e] at q'
      exact q'
    · have n8 : z.length ≤ 8 := by
        refine Classical.byContradiction fun k => c (decide_eq_true ?_)
        omega
      have e : wordD (.str z) = (Txt.isascii z && (Txt.isalpha z && Txt.islower z)) := by
        show (lettersS z && decide (z.length ≤ 8)) = _
        rw [low3, decide_eq_true n8, Bool.and_true]
      rw [e] at q'
      refine ⟨_, rfl, ⟨z, rfl⟩, z, rfl, rfl, trivial, ?_⟩
      cases c1 : Txt.isascii z with
      | false =>
        rw [c1] at q'
        exact ⟨_, rfl, iteF q'⟩
      | true =>
        rw [c1] at q'
        refine ⟨_, rfl, iteT ⟨_, rfl, ⟨z, rfl⟩, z, rfl, rfl, trivial, ?_⟩⟩
        cases c2 : Txt.isalpha z with
        | false =>
          rw [c2] at q'
          exact ⟨_, rfl, iteF q'⟩
        | true =>
          rw [c2] at q'
          exact ⟨_, rfl, iteT ⟨_, rfl, ⟨z, rfl⟩, z, rfl, rfl, trivial, q'⟩⟩
  · rw [hn]
    rw [(not_str hn).2.1] at q'
    exact q'
theorem ok_is_rank (T : Txt K mg) : FnOk P w K mg base CX0 2 T.f_is_rank T.d_is_rank ["thing"] (spLook K (withinD 0 100)) := by
  have O_is_whole : FnOk P w K mg base CX0 1 _ _ _ _ := ok_is_whole T
  refine T.F_is_rank.ok sc_is_rank (fun vs H Q E h => ?_) (fun cdv A outer s H vs Q E hr h => ?_)
  · obtain ⟨v, d, rfl, _⟩ := h
    rfl
  obtain ⟨v, d, rfl, ht, q⟩ := h
  refine ⟨_, (pss_one (ps_ret (pe_and (pe_call O_is_whole (hr.mono (by decide)) (by rfl) T.m_is_whole T.F_is_whole.kp T.b_is_whole .nil pass0 (pa_cons (pv 0) pa_nil)) (pe_one (pe_chain op_le op_le pe_int (pv 0) (pe_glob (v := .int 100) (by rfl) T.c_GREATEST_RANK ⟨_, rfl⟩)))))), ?_⟩
  refine ⟨v, rfl, v, d, rfl, ht, fun H1 s1 => ⟨_, rfl, ?_⟩⟩
  have q' := q H1 s1
  rcases ht.intq with ⟨i, rfl, rfl⟩ | hn
  · refine ⟨_, rfl, _, _, rfl, rfl, _, rfl, ?_⟩
    have e : withinD 0 100 (.int i) = (decide (0 ≤ i) && decide (i ≤ 100)) := rfl
    rw [e] at q'
    refine ite2 (fun c => ?_) (fun c => ?_)
    · rw [c] at q'
      exact ⟨_, _, rfl, rfl, q'⟩
    · rw [Bool.eq_false_iff.mpr c] at q'
      exact q'
  · have e : withinD 0 100 d = false := by
      cases d with
      | int i => cases hn
      | _ => rfl
    rw [e] at q'
    rw [hn]
    exact q'
theorem ok_is_name (T : Txt K mg) : FnOk P w K mg base CX0 3 T.f_is_name T.d_is_name ["thing"] (spLook K nameD) := by
  have O_is_word : FnOk P w K mg base CX0 2 _ _ _ _ := ok_is_word T
  refine T.F_is_name.ok sc_is_name (fun vs H Q E h => ?_) (fun cdv A outer s H vs Q E hr h => ?_)
  · obtain ⟨v, d, rfl, _⟩ := h
    rfl
  obtain ⟨v, d, rfl, ht, q⟩ := h
  refine ⟨_, (pss_cons (ps_if (PW.pt (pw_or (pt_not (pt_val (pe_callB call_isi (by rfl) T.z_isinstance (by decide +kernel) (pa_cons (pv 0) (pa_cons (pe_bltn (v := .ty "tuple") (by rfl) T.z_tuple (by decide +kernel) rfl) pa_nil))))) (pw_or1 (pt_cmpR op_ne (pe_callB call_len_seq (by rfl) T.z_len PySem.boot_len (pa_cons (pv 0) pa_nil)) pe_int (nomark _)))))
      (pss_one (ps_ret pe_bl)) pss_nil)
    (pss_cons (ps_asg (pv 0) (pg_tup rfl (pgs_cons (pg_name (i := 1) sc_is_name.nd rfl (.inl rfl)) (pgs_cons (pg_name (i := 2) sc_is_name.nd rfl (.inl rfl)) pgs_nil))))
    (pss_cons (ps_if (PW.pt (pw_or (pt_not (pt_val (pe_callB call_isi (by rfl) T.z_isinstance (by decide +kernel) (pa_cons (pv 2) (pa_cons (pe_bltn (v := .ty "int") (by rfl) T.z_int (by decide +kernel) rfl) pa_nil))))) (pw_or (pt_val (pe_callB call_isi (by rfl) T.z_isinstance (by decide +kernel) (pa_cons (pv 2) (pa_cons (pe_bltn (v := .ty "bool") (by rfl) T.z_bool (by decide +kernel) rfl) pa_nil)))) (pw_or1 (pt_not (pt_chain op_le op_le pe_int (pv 2) (pe_glob (v := .int 99999) (by rfl) T.c_GREATEST_NUMBER ⟨_, rfl⟩)))))))
      (pss_one (ps_ret pe_bl)) pss_nil)
    (pss_one (ps_ret (pe_call O_is_word (hr.mono (by decide)) (by rfl) T.m_is_word T.F_is_word.kp T.b_is_word .nil pass0 (pa_cons (pv 1) pa_nil))))))), ?_⟩
  refine ⟨v, rfl, v, .ty "tuple", _, _, _, rfl, .ty _, ht.ty, kit_tup d, _, rfl, ?_⟩
  rcases ht.tupq with ⟨a, xs, ds, rfl, rfl, hs, ha, sm⟩ | hn
  · refine iteF ⟨_, rfl, a, xs, rfl, .inr hs, rfl, _, rfl, ?_⟩
    have hl := dps_length ha
    refine ite2 (fun c => ?_) (fun c => ?_)
    · have n2 : ds.length ≠ 2 := fun e => by
        rw [hl, e] at c
        exact absurd c (by decide)
      have e : nameD (.tuple ds) = false := by
        match ds, n2 with
        | [], _ => rfl
        | [_], _ => rfl
        | [_, _], n => exact absurd rfl n
        | _ :: _ :: _ :: _, _ => rfl
      have q' := q H (Same.refl H)
      rw [e] at q'
      exact q'
    · have n2 : xs.length = 2 := by
        by_cases e : V.int (xs.length : Nat) = V.int 2
        · have := V.int.inj e
          omega
        · exact absurd (by rw [decide_eq_false e]; rfl) c
      obtain ⟨x0, x1, d0, d1, rfl, rfl, h0, h1⟩ := dp2 ha n2
      have sm0 : okD d0 = true ∧ okD d1 = true := ⟨okAll_mem sm.1 _ (by simp), okAll_mem sm.1 _ (by simp)⟩
      have t0 : Th K H x0 d0 := .dp h0 sm0.1
      have t1 : Th K H x1 d1 := .dp h1 sm0.2
      have en : nameD (.tuple [d0, d1]) = (wordD d0 && withinD 0 99999 d1) := rfl
      rw [en] at q
      refine ⟨_, rfl, a, _, rfl, hs, rfl, _, _, rfl, _, _, rfl, rfl, ?_⟩
      have qf := q H (Same.refl H)
      refine ⟨_, rfl, _, .ty "int", _, _, _, rfl, .ty _, t1.ty, kit_int d1, _, rfl, ?_⟩
      rcases t1.intq with ⟨i, rfl, rfl⟩ | hn
      · refine iteF ⟨_, rfl, _, .ty "bool", _, _, _, rfl, .ty _, t1.ty, kit_bool _, _, rfl, ?_⟩
        refine iteF ⟨_, rfl, _, _, rfl, rfl, _, rfl, ?_⟩
        have e : withinD 0 99999 (.int i) = (decide (0 ≤ i) && decide (i ≤ 99999)) := rfl
        rw [e] at q qf
        refine ite2 (fun c1 => ?_) (fun c1 => ?_)
        · refine ⟨_, _, rfl, rfl, _, rfl, ?_⟩
          rw [c1] at q qf
          cases c2 : decide (i ≤ 99999) with
          | false =>
            rw [c2, Bool.and_false, Bool.and_false] at qf
            exact qf
          | true =>
            rw [c2] at q
            refine iteF ⟨_, rfl, x0, d0, rfl, t0, fun H1 s1 => ?_⟩
            have q' := q H1 s1
            rw [Bool.and_true, Bool.and_true] at q'
            exact q'
        · rw [Bool.eq_false_iff.mpr c1, Bool.false_and, Bool.and_false] at qf
          exact ⟨_, rfl, qf⟩
      · have e : withinD 0 99999 d1 = false := by
          cases d1 with
          | int i => cases hn
          | _ => rfl
        rw [e, Bool.and_false] at qf
        cases c1 : isIntD d1 with
        | false => exact iteT qf
        | true =>
          have eb : isBoolD d1 = true := by
            cases d1 with
            | int i => cases hn
            | bool b => rfl
            | _ => cases c1
          refine iteF ⟨_, rfl, _, .ty "bool", _, _, _, rfl, .ty _, t1.ty, kit_bool _, _, rfl, ?_⟩
          rw [eb]
          exact iteT qf
  · rw [hn]
    have e : nameD d = false := by
      cases d with
      | tuple _ => cases hn
      | _ => rfl
    have q' := q H (Same.refl H)
    rw [e] at q'
    exact q'
theorem sub_asc {x : Str} {i j : Nat} (h : asc x) : asc (Builtin.Str.strSub x i j) := fun c hc => by
  unfold Builtin.Str.strSub at hc
  rw [Array.toList_extract] at hc
  exact h c (List.mem_of_mem_drop (List.mem_of_mem_take hc))
theorem part_asc {x y a : Str} (h : a ∈ Txt.split x y) (k : asc x) : asc a := by
  unfold Txt.split at h
  split at h
  · rw [List.mem_singleton.mp h]; exact k
  · split at h
    · rw [List.mem_singleton.mp h]; exact k
    · unfold Builtin.Str.partsBetween at h
      obtain ⟨⟨i, j⟩, _, rfl⟩ := List.mem_map.mp h
      exact sub_asc k
theorem part_shortA (z : Str) (hz : z.length ≤ 1000) (ha : asc z) : (Txt.partition z at1).1.length ≤ 1000 ∧ (Txt.partition z at1).2.2.length ≤ 1000 ∧ asc (Txt.partition z at1).1 ∧ asc (Txt.partition z at1).2.2 := by
  rw [at1_eq]
  obtain ⟨h1, h2, h3, h4⟩ := part_parts z 64
  exact ⟨Nat.le_trans h1 hz, Nat.le_trans h2 hz, fun c hc => ha c (h3 c hc), fun c hc => ha c (h4 c hc)⟩
theorem at1_len : ((at1.length == 0) = false) := by decide
theorem strs_get {ys : List Str} {i : Nat} {y : Str} (h : ys[i]? = some y) : (ys.map V.str)[i]? = some (.str y) := by rw [List.getElem?_map, h]; rfl
theorem ok_is_person (T : Txt K mg) : FnOk P w K mg base CX0 3 T.f_is_person T.d_is_person ["thing"] (spLook K personD) := by
  have O_is_word : FnOk P w K mg base CX0 2 _ _ _ _ := ok_is_word T
  refine T.F_is_person.ok sc_is_person (fun vs H Q E h => ?_) (fun cdv A outer s H vs Q E hr h => ?_)
  · obtain ⟨v, d, rfl, _⟩ := h
    rfl
  obtain ⟨v, d, rfl, ht, q⟩ := h
  refine ⟨_, (pss_cons (ps_if (pt_not (pt_val (pe_callB call_isi (by rfl) T.z_isinstance (by decide +kernel) (pa_cons (pv 0) (pa_cons (pe_bltn (v := .ty "str") (by rfl) T.z_str (by decide +kernel) rfl) pa_nil)))))
      (pss_one (ps_ret pe_bl)) pss_nil)
    (pss_cons (ps_asg (pe_partition (pv 0) pe_str) (pg_tup rfl (pgs_cons (pg_name (i := 1) sc_is_person.nd rfl (.inl rfl)) (pgs_cons (pg_name (i := 2) sc_is_person.nd rfl (.inl rfl)) (pgs_cons (pg_name (i := 3) sc_is_person.nd rfl (.inl rfl)) pgs_nil)))))
    (pss_one (ps_ret (pe_and (pe_call O_is_word (hr.mono (by decide)) (by rfl) T.m_is_word T.F_is_word.kp T.b_is_word .nil pass0 (pa_cons (pv 1) pa_nil)) (pe_one (pe_call O_is_word (hr.mono (by decide)) (by rfl) T.m_is_word T.F_is_word.kp T.b_is_word .nil pass0 (pa_cons (pv 3) pa_nil)))))))), ?_⟩
  refine ⟨v, rfl, v, .ty "str", _, _, _, rfl, .ty _, ht.ty, kit_str d, _, rfl, ?_⟩
  rcases ht.strq with ⟨z, rfl, rfl, hz, ha⟩ | hn
  · refine iteF ?_
    refine ⟨_, rfl, ⟨_, rfl⟩, z, at1, rfl, rfl, at1_len, Nat.le_of_lt (small_len (by omega)), fun p np => ?_⟩
    obtain ⟨g1, g2, a1, a2⟩ := part_shortA z hz ha
    have es : personD (.str z) = (wordS (Txt.partition z at1).1 && wordS (Txt.partition z at1).2.2) := person_part z
    rw [es] at q
    generalize (Txt.partition z at1).1 = x at *
    generalize (Txt.partition z at1).2.2 = y at *
    generalize (Txt.partition z at1).2.1 = c at *
    have s1 : Same H (upd H p (.tup [.str x, .str c, .str y])) := same_new np
    refine ⟨p, _, rfl, SqT.of upd_same, rfl, _, _, rfl, _, _, rfl, _, _, rfl, rfl, ?_⟩
    refine ⟨_, rfl, .str x, .str x, rfl, .dp (.str x) (okS_mk g1 a1), fun H1 s2 => ⟨_, rfl, ?_⟩⟩
    refine ite2 (fun c2 => ?_) (fun c2 => ?_)
    · refine ⟨_, rfl, .str y, .str y, rfl, .dp (.str y) (okS_mk g2 a2), fun H2 s3 => ?_⟩
      have q' := q H2 (s1.trans (s2.trans s3))
      rw [show wordS x = true from c2] at q'
      exact q'
    · have q' := q H1 (s1.trans s2)
      rw [show wordS x = false from Bool.eq_false_iff.mpr c2] at q'
      exact q'
  · rw [hn]
    have q' := q H (Same.refl H)
    rw [(not_str hn).2.2] at q'
    exact q'
def spHouse (K : PySem.W.Frag) : Sp := fun vs H Q _ => ∃ (z a b : Str), vs = [.str z] ∧ z.length ≤ 1000 ∧ Txt.split z at1 = [a, b] ∧ ∀ H', Same H H' → Q (.str b) H'
theorem ok_house_of (T : Txt K mg) : FnOk P w K mg base CX0 1 T.f_house_of T.d_house_of ["person"] (spHouse K) := by
  refine T.F_house_of.ok sc_house_of (fun vs H Q E h => ?_) (fun cdv A outer s H vs Q E hr h => ?_)
  · obtain ⟨z, a, b, rfl, _⟩ := h
    rfl
  obtain ⟨z, a, b, rfl, hz, hs, q⟩ := h
  refine ⟨_, (pss_one (ps_ret (pe_ix (ix_listK K) (pe_split (pv 0) pe_str) pe_int (fun _ _ => rfl)))), ?_⟩
  refine ⟨_, rfl, ⟨_, rfl⟩, z, at1, rfl, rfl, at1_len, Nat.le_of_lt (small_len (by omega)), fun p np => ?_⟩
  have e1 : (upd H p (.lst ((Txt.split z at1).map V.str))) p = some (.lst [.str a, .str b]) := by rw [upd_same, hs]; rfl
  exact ⟨p, _, 1, .str b, rfl, rfl, SqL.of e1, rfl, q _ (same_new np)⟩
end
end K05

namespace K05
open PySem PySem.Spec PyProof.Rows L2 Br
/-- a pool of draws stands at p -/
def Pool (H : Hp) (p : Addr) : Prop := ∃ x y : Int, H p = some (.lst [.int x, .int y]) ∧ 0 ≤ x ∧ 0 ≤ y ∧ y < 2147483647
/-- all but p is as it was -/
def But (p : Addr) (H H' : Hp) : Prop := ∀ b o, b ≠ p → H b = some o → H' b = some o
theorem But.refl (p : Addr) (H : Hp) : But p H H := fun _ _ _ e => e
theorem But.trans {p : Addr} {H H1 H2 : Hp} (a : But p H H1) (b : But p H1 H2) : But p H H2 := fun c o n e => b c o n (a c o n e)
theorem But.of {p : Addr} {H H' : Hp} (e : Same H H') : But p H H' := fun b o _ q => e b o q
theorem But.upd {p : Addr} {H : Hp} {o : HO} : But p H (upd H p o) := fun b u n e => (upd_ne n).trans e
theorem But.new {p q : Addr} {H : Hp} {o : HO} (h : H q = none) : But p H (L2.upd H q o) := .of (same_new h)
theorem Pool.same {H H' : Hp} {p : Addr} (h : Pool H p) (e : Same H H') : Pool H' p := by
  obtain ⟨x, y, a, r⟩ := h
  exact ⟨x, y, e _ _ a, r⟩
theorem Pool.ne {H : Hp} {p q : Addr} (h : Pool H p) (n : H q = none) : q ≠ p := by
  obtain ⟨x, y, a, _⟩ := h
  exact (ne_of_none a n).symm
/-- small letters alone -/
def low (z : Str) : Prop := ∀ c ∈ z.cps.toList, 97 ≤ c ∧ c ≤ 122
theorem low.asc {z : Str} (h : low z) : asc z := fun c hc => Nat.lt_of_le_of_lt (h c hc).2 (by decide)
theorem low.word {z : Str} (h : low z) (h1 : 1 ≤ z.length) (h8 : z.length ≤ 8) : wordS z = true := by
  unfold wordS lettersS
  rw [decide_eq_false (show ¬ z.length = 0 by omega), decide_eq_true h8]
  have e : z.cps.toList.all letC = true := List.all_eq_true.mpr fun c hc => by
    unfold letC
    rw [decide_eq_true (h c hc).1, decide_eq_true (h c hc).2]
    rfl
  rw [e]
  rfl
def spPool (K : PySem.W.Frag) : Sp := fun vs H Q _ => ∃ (a : Addr) (ns : List Int) (k : Int), vs = [.ref a, .int k] ∧ SqL K H a (ns.map V.int) ∧ 0 ≤ k ∧ k ≤ 1000 ∧
  ∀ H' p, Same H H' → H p = none → Pool H' p → Q (.ref p) H'
def spTake (K : PySem.W.Frag) : Sp := fun vs H Q _ => ∃ (p : Addr) (m : Int), vs = [.ref p, .int m] ∧ Pool H p ∧ 1 ≤ m ∧ m ≤ 1000000000 ∧
  ∀ H' r, But p H H' → Pool H' p → 0 ≤ r → r < m → Q (.int r) H'
def spLetters (K : PySem.W.Frag) : Sp := fun vs H Q _ => ∃ (p : Addr) (n : Int), vs = [.ref p, .int n] ∧ Pool H p ∧ 0 ≤ n ∧ n ≤ 100 ∧
  ∀ H' z, But p H H' → Pool H' p → (z.length : Int) = n → low z → Q (.str z) H'
def spSigns (K : PySem.W.Frag) : Sp := fun vs H Q _ => ∃ (p : Addr), vs = [.ref p] ∧ Pool H p ∧
  ∀ H' z, But p H H' → Pool H' p → z.length ≤ 30 → asc z → Q (.str z) H'
section
variable {P : Program} {w : World} {K : PySem.W.Frag} {mg : Str → Option Value} {base : Heap}
theorem bit_ok (b : Bool) : -(2 ^ 64) < (if b = true then (1 : Int) else 0) ∧ (if b = true then (1 : Int) else 0) < 2 ^ 64 := by cases b <;> decide
theorem bit_nn (b : Bool) : 0 ≤ (if b = true then (1 : Int) else 0) := by cases b <;> decide
theorem size_ok (c : Int) : 0 ≤ (if -1 - c > c then -1 - c else c) := by split <;> omega
theorem two_le {a b : V} : [a, b].length ≤ sizeLine := show 2 ≤ sizeLine by decide
theorem ok_law_pool (T : Txt K mg) : FnOk P w K mg base CX0 1 T.f_law_pool T.d_law_pool ["_law_script", "_law_k"] (spPool K) := by
  refine T.F_law_pool.ok sc_law_pool (fun vs H Q E h => ?_) (fun cdv A outer s H vs Q E hr h => ?_)
  · obtain ⟨a, ns, k, rfl, _⟩ := h
    rfl
  obtain ⟨a, ns, k, rfl, hS, k0, k1, q⟩ := h
  refine ⟨_, (pss_cons (ps_set (i := 2) sc_law_pool.nd rfl (.inl rfl) pe_int)
    (pss_cons (ps_if (pt_cmpR op_lt (pv 1) (pe_callB call_len_seq (by rfl) T.z_len PySem.boot_len (pa_cons (pv 0) pa_nil)) (nomark _))
      (pss_one (ps_set (i := 2) sc_law_pool.nd rfl (.inl rfl) (pe_ix (ix_listK K) (pv 0) (pv 1) (fun _ _ => rfl)))) pss_nil)
    (pss_cons (ps_set (i := 3) sc_law_pool.nd rfl (.inl rfl) (pe_callB (call_max2 rfl) (by rfl) T.z_max (by decide +kernel) (pa_cons (pv 2) (pa_cons (pe_op op_sub (pe_un un_neg pe_int) (pv 2)) pa_nil))))
    (pss_cons (ps_set (i := 4) sc_law_pool.nd rfl (.inl rfl) (pe_op op_mod (pe_op op_mul (pe_op op_add (pe_op op_add (pe_op op_add (pe_op op_mod (pv 3) pe_int) (pe_op op_mul (pe_op op_mul pe_int (pv 1)) (pv 1))) (pe_op op_mul pe_int (pv 1))) pe_int) pe_int) pe_int))
    (pss_one (ps_ret (pe_lst (pa_cons (pe_op op_mul (pv 3) (pe_callTy call_int1 (by rfl) T.z_int (by decide +kernel) (pa_cons (pe_cmpR op_ge (pv 3) (pe_op op_pow pe_int pe_int) (nomark _)) pa_nil))) (pa_cons (pv 4) pa_nil))))))))), ?_⟩
  refine ⟨_, rfl, _, rfl, a, _, rfl, .inl hS, _, _, rfl, rfl, _, rfl, ?_⟩
  have kk : 0 ≤ 7919 * k ∧ 7919 * k ≤ 7919000 := by omega
  refine ite2 (fun c => ?a) (fun c => ?b)
  case' a =>
    have kl : k.toNat < ns.length := by
      have := of_decide_eq_true c
      rw [List.length_map] at this
      omega
    have ha : atI (ns.map V.int) ((k.toNat : Nat) : Int) = some (.int ns[k.toNat]) := atI_nat (by rw [List.getElem?_map, List.getElem?_eq_getElem kl]; rfl)
    rw [Int.toNat_of_nonneg k0] at ha
    refine ⟨_, rfl, _, rfl, a, _, k, _, rfl, rfl, hS, ha, ?_⟩
  all_goals
    refine ⟨_, rfl, 1, rfl, _, rfl, _, _, rfl, rfl, _, _, rfl, ?_⟩
    refine ⟨_, rfl, _, _, rfl, rfl, (show (0 : Int) < 2147483629 by decide), _, rfl, _, _, rfl, rfl, .inl (by decide), _, rfl, _, _, rfl, rfl, .inl (by omega), _, _, rfl, rfl, _, rfl, _, _, rfl, rfl, .inl (by decide), _, _, rfl, rfl, _, _, rfl, rfl, _, _, rfl, rfl, .inr (by decide), _, _, rfl, rfl, (show (0 : Int) < 2147483647 by decide), ?_⟩
    refine ⟨_, rfl, _, rfl, _, _, rfl, rfl, ⟨by decide, by decide, by decide⟩, _, _, rfl, rfl, .inr ⟨_, rfl, _, _, rfl, rfl, .inr (bit_ok _), _, rfl, two_le, fun p np => ?_⟩⟩
    exact q _ p (same_new np) np ⟨_, _, upd_same, Int.mul_nonneg (size_ok _) (bit_nn _), Int.emod_nonneg _ (by decide), Int.emod_lt_of_pos _ (by decide)⟩
theorem ok_law_take (T : Txt K mg) : FnOk P w K mg base CX0 1 T.f_law_take T.d_law_take ["_law_pool_here", "_law_many"] (spTake K) := by
  refine T.F_law_take.ok sc_law_take (fun vs H Q E h => ?_) (fun cdv A outer s H vs Q E hr h => ?_)
  · obtain ⟨p, m, rfl, _⟩ := h
    rfl
  obtain ⟨p, m, rfl, ⟨x, y, hp, x0, y0, y1⟩, m0, m1, q⟩ := h
  refine ⟨_, (pss_cons (ps_if (pt_cmpR op_gt (pe_ix (ix_listK K) (pv 0) pe_int (fun _ _ => rfl)) pe_int (nomark _))
      (pss_cons (ps_set (i := 2) sc_law_take.nd rfl (.inl rfl) (pe_op op_mod (pe_ix (ix_listK K) (pv 0) pe_int (fun _ _ => rfl)) (pv 1)))
    (pss_cons (ps_asg (pe_op op_fdiv (pe_ix (ix_listK K) (pv 0) pe_int (fun _ _ => rfl)) (pv 1)) (pg_sub (pv 0) pe_int set_list))
    (pss_one (ps_ret (pv 2))))) pss_nil)
    (pss_cons (ps_asg (pe_op op_mod (pe_op op_add (pe_op op_mul (pe_ix (ix_listK K) (pv 0) pe_int (fun _ _ => rfl)) pe_int) pe_int) pe_int) (pg_sub (pv 0) pe_int set_list))
    (pss_one (ps_ret (pe_op op_mod (pe_op op_fdiv (pe_op op_mod (pe_op op_mul (pe_ix (ix_listK K) (pv 0) pe_int (fun _ _ => rfl)) (pe_ix (ix_listK K) (pv 0) pe_int (fun _ _ => rfl))) pe_int) pe_int) (pv 1)))))), ?_⟩
  refine ⟨_, rfl, p, _, 0, _, rfl, rfl, SqL.of hp, rfl, _, _, rfl, rfl, _, rfl, ?_⟩
  refine ite2 (fun c => ?_) (fun c => ?_)
  · refine ⟨_, rfl, p, _, 0, _, rfl, rfl, SqL.of hp, rfl, _, rfl, _, _, rfl, rfl, (show 0 < m by omega), ?_⟩
    refine ⟨_, rfl, p, _, 0, _, rfl, rfl, SqL.of hp, rfl, _, rfl, _, _, rfl, rfl, ⟨(show 0 < m by omega), (show m < 1073741824 by omega)⟩, _, rfl, p, _, 0, 0, rfl, rfl, hp, rfl, ?_⟩
    refine ⟨_, rfl, ?_⟩
    exact q _ _ But.upd ⟨_, _, upd_same, Int.ediv_nonneg x0 (by omega), y0, y1⟩ (Int.emod_nonneg _ (by omega)) (Int.emod_lt_of_pos _ (by omega))
  · refine ⟨_, rfl, p, _, 1, _, rfl, rfl, SqL.of hp, rfl, _, _, rfl, rfl, .inl (by omega), _, _, rfl, rfl, _, _, rfl, rfl, (show (0 : Int) < 2147483647 by decide), _, rfl, p, _, 1, 1, rfl, rfl, hp, rfl, ?_⟩
    have n0 : 0 ≤ (y * 69621 + 7) % 2147483647 := Int.emod_nonneg _ (by decide)
    have n1 : (y * 69621 + 7) % 2147483647 < 2147483647 := Int.emod_lt_of_pos _ (by decide)
    refine ⟨_, rfl, p, _, 1, _, rfl, rfl, SqL.of upd_same, rfl, _, rfl, p, _, 1, _, rfl, rfl, SqL.of upd_same, rfl, _, _, rfl, rfl, .inl ⟨Int.lt_of_lt_of_le (by decide) n0, Int.lt_trans n1 (by decide)⟩, _, _, rfl, rfl, (show (0 : Int) < 2147483629 by decide), _, _, rfl, rfl, ⟨(show (0 : Int) < 32 by decide), (show (32 : Int) < 1073741824 by decide)⟩, _, rfl, _, _, rfl, rfl, (show 0 < m by omega), ?_⟩
    exact q _ _ But.upd ⟨_, _, upd_same, x0, n0, n1⟩ (Int.emod_nonneg _ (by omega)) (Int.emod_lt_of_pos _ (by omega))
theorem abc_at {r : Int} (h0 : 0 ≤ r) (h1 : r < 26) : ∃ c, atI ("abcdefghijklmnopqrstuvwxyz" : Str).cps.toList r = some c ∧ (97 ≤ c ∧ c ≤ 122) := by
  have hl : ("abcdefghijklmnopqrstuvwxyz" : Str).cps.toList.length = 26 := by decide +kernel
  have e : ((r.toNat : Nat) : Int) = r := Int.toNat_of_nonneg h0
  refine ⟨("abcdefghijklmnopqrstuvwxyz" : Str).cps.toList[r.toNat]'(by omega), ?_⟩
  have q : atI ("abcdefghijklmnopqrstuvwxyz" : Str).cps.toList ((r.toNat : Nat) : Int) = some _ := atI_nat (List.getElem?_eq_getElem (by omega))
  rw [e] at q
  have all : ∀ c ∈ ("abcdefghijklmnopqrstuvwxyz" : Str).cps.toList, 97 ≤ c ∧ c ≤ 122 := by decide +kernel
  exact ⟨q, all _ (List.getElem_mem _)⟩
theorem asc_app {x y : Str} (a : asc x) (b : asc y) : asc (x ++ y) := fun c hc => by
  have e : (x ++ y).cps.toList = x.cps.toList ++ y.cps.toList := Array.toList_append
  rw [e] at hc
  exact (List.mem_append.mp hc).elim (a c) (b c)
theorem asc_nil : asc "" := fun c hc => nomatch hc
theorem join_flat : ∀ ys : List Str, (Str.join "" ys).cps.toList = (ys.map fun y => y.cps.toList).flatten
  | [] => rfl
  | [y] => (List.append_nil _).symm
  | x :: y :: r => by
    have e : (Str.join "" (x :: y :: r)).cps.toList = (x.cps.toList ++ []) ++ (Str.join "" (y :: r)).cps.toList := by
      show (x ++ "" ++ Str.join "" (y :: r)).cps.toList = _
      exact (Array.toList_append (xs := (x ++ "").cps)).trans (congrArg (· ++ _) Array.toList_append)
    rw [e, join_flat (y :: r), List.append_nil]
    rfl
theorem low_join {ys : List Str} (h : ∀ y ∈ ys, low y) : low (Str.join "" ys) := fun c hc => by
  rw [join_flat] at hc
  obtain ⟨l, hl, hcl⟩ := List.mem_flatten.mp hc
  obtain ⟨y, hy, rfl⟩ := List.mem_map.mp hl
  exact h y hy c hcl
theorem ones_len : ∀ {ys : List Str}, (∀ y ∈ ys, y.length = 1) → ((ys.map fun y => y.cps.toList).flatten).length = ys.length
  | [], _ => rfl
  | y :: ys, h => by
    rw [List.map_cons, List.flatten_cons, List.length_append, ones_len fun z hz => h z (List.mem_cons_of_mem _ hz), List.length_cons]
    have := h y List.mem_cons_self
    have e : y.cps.toList.length = y.length := Array.length_toList
    omega
theorem asc_cut {z : Str} {lo hi : Option Int} (h : asc z) : asc (cutS z lo hi) := fun c hc => by
  unfold cutS at hc
  exact h c (List.mem_of_mem_drop (List.mem_of_mem_take hc))
theorem sum_ones : ∀ {ys : List Str}, (∀ y ∈ ys, y.length = 1) → (ys.map (·.length)).sum = ys.length
  | [], _ => rfl
  | y :: ys, h => by
    rw [List.map_cons, List.sum_cons, sum_ones fun z hz => h z (List.mem_cons_of_mem _ hz), h y List.mem_cons_self, List.length_cons]
    omega
theorem join_len {ys : List Str} (h : ∀ y ∈ ys, y.length = 1) : (Str.join "" ys).length = ys.length := by
  have e : (Str.join "" ys).cps.toList.length = (Str.join "" ys).length := Array.length_toList
  rw [← e, join_flat, ones_len h]
theorem ok_law_letters (T : Txt K mg) : FnOk P w K mg base CX0 2 T.f_law_letters T.d_law_letters ["_law_pool_here", "_law_many"] (spLetters K) := by
  have O_law_take : FnOk P w K mg base CX0 1 _ _ _ _ := ok_law_take T
  refine T.F_law_letters.ok sc_law_letters (fun vs H Q E h => ?_) (fun cdv A outer s H vs Q E hr h => ?_)
  · obtain ⟨p, n, rfl, _⟩ := h
    rfl
  obtain ⟨p, n, rfl, hp, n0, n1, q⟩ := h
  refine ⟨_, (pss_cons (ps_set (i := 2) sc_law_letters.nd rfl (.inr rfl) pe_str)
    (pss_one (ps_ret (pe_join pe_str (pe_lc (own := [("_law_turn", 3)]) (g := gName 3) (tt := tYes) rfl sc_law_letters.nd (pi_range1 (by rfl) T.z_range (pa_cons (pv 1) pa_nil)) (blkOk_by (own := [("_law_turn", 3)]) (N := ["_law_pool_here", "_law_many", "_law_letters_here", "_law_turn"]) (sc := defScope s_law_letters) (by decide +kernel)) (fun _ _ _ _ _ => pg_name (i := 3) sc_law_letters.nd rfl (Or.inl rfl)) (fun _ _ _ _ _ => pts_nil) (fun _ _ _ _ _ => (pe_ix ix_str (pv 2) (pe_call O_law_take (hr.mono (by decide)) (by rfl) T.m_law_take T.F_law_take.kp T.b_law_take .nil pass0 (pa_cons (pv 0) (pa_cons pe_int pa_nil))) (fun _ _ => rfl)))))))), ?_⟩
  refine ⟨⟨_, rfl⟩, _, rfl, n, rfl, by omega, by omega, fun D nD => ?_⟩
  have nDp : D ≠ p := hp.ne nD
  refine lc_it walk_range (fun i H' => But p H H' ∧ Pool H' p ∧ ∃ ys : List Str, H' D = some (.lst (ys.map V.str)) ∧ ys.length = i ∧ (∀ y ∈ ys, y.length = 1) ∧ ∀ y ∈ ys, low y)
    ⟨.new nD, hp.same (same_new nD), [], upd_same, rfl, (fun _ z => nomatch z), (fun _ z => nomatch z)⟩ (fun _ _ _ _ => trivial) (fun i x H1 H2 hi hP hy => ?_) (fun H1 hP => ?_)
  · obtain ⟨rfl, rfl⟩ := hy
    obtain ⟨b1, p1, ys, hD, hl, h1, h2⟩ := hP
    refine ⟨rfl, ?_⟩
    refine ⟨_, rfl, _, rfl, p, 26, rfl, p1, by decide, by decide, fun H3 r b3 p3 r0 r1 => ?_⟩
    obtain ⟨c, hc, hc8⟩ := abc_at r0 r1
    refine ⟨_, r, c, rfl, rfl, (show 26 ≤ sizeLine by decide), hc, _, b3 D _ nDp hD, ?_, ?_⟩
    · rw [List.length_map]
      exact small_len (by omega)
    · refine ⟨fun a o na e => ?_, ?_, ys ++ [⟨#[c]⟩], ?_, ?_, ?_, ?_⟩
      · rw [upd_ne (ne_of_none e nD)]
        exact (b1.trans b3) a o na e
      · obtain ⟨x, y, e, r⟩ := p3
        exact ⟨x, y, by rw [upd_ne nDp.symm]; exact e, r⟩
      · rw [upd_same, List.map_append]; rfl
      · rw [List.length_append, hl]; rfl
      · intro y hy
        rcases List.mem_append.mp hy with z | z
        · exact h1 y z
        · rw [List.mem_singleton.mp z]; rfl
      · intro y hy
        rcases List.mem_append.mp hy with z | z
        · exact h2 y z
        · rw [List.mem_singleton.mp z]
          intro d hd
          rw [List.mem_singleton.mp hd]
          exact hc8
  · obtain ⟨b1, p1, ys, hD, hl, h1, h2⟩ := hP
    have hs := sum_ones h1
    refine ⟨"", D, ys, rfl, rfl, .inl (SqL.of hD), ?_, q H1 _ b1 p1 ?_ ?_⟩
    · rw [hs]
      show ys.length + ys.length * 0 ≤ 16777216
      omega
    · have e : Txt.join "" ys = Str.join "" ys := StrLaws.glued_eq_join ..
      rw [e, join_len h1]
      omega
    · have e : Txt.join "" ys = Str.join "" ys := StrLaws.glued_eq_join ..
      rw [e]
      exact low_join h2
end
end K05

namespace K05
open PySem PySem.Spec PyProof.Rows L2 Br
abbrev i_NoDeed : Stmt := inClass (top 1) 0
theorem sc_NoDeed : FnScope ["self", "part"] ["self", "part"] (defScope i_NoDeed) := ⟨rfl, rfl, rfl, by decide +kernel, rfl, by decide +kernel, by decide +kernel⟩
/-- what the top has left of classes and tables -/
structure TxtX (K : PySem.W.Frag) (mg : Str → Option Value) (w : World) (T : Txt K mg) where
  C : Addr
  mC : mg "NoDeed" = some (.ref C)
  ox : OexC K C
  xf : XfC K C
  ec : ExcC K C
  fi : Addr
  di : FuncData
  Fi : Fun K "__init__" "NoDeed.__init__" i_NoDeed fi di
  bi : Binds K di ["self", "part"] []
  iC : PySem.W.findIn K (.ref C) "__init__" = some (some (.ref fi))
  tI : PySem.W.typeIn K (.ref fi) = some (.type "function")
  nf : PySem.W.findIn K (.ref C) "part" = some none
  te : PySem.W.exmOne K (.ref C) (.ref C) = some true
  kv : PySem.W.kitOne K (.ref C) (.type "ValueError") = some true
  vV : PySem.W.findCls K (.type "ValueError") (.type "type") "__init__" = some (.val (.builtin "ValueError.__init__"))
  C1 : Addr
  C2 : Addr
  C3 : Addr
  C4 : Addr
  m1 : mg "NoText" = some (.ref C1)
  m2 : mg "NoStates" = some (.ref C2)
  m3 : mg "NoRow" = some (.ref C3)
  m4 : mg "Barred" = some (.ref C4)
  ka : PySem.W.kitAny K (.ref C) [.ref C1, .ref C2, .ref C3, .ref C4] = some false
  a_KINDS : Addr
  m_KINDS : mg "KINDS" = some (.ref a_KINDS)
  q_KINDS : ∀ H, SqT K H a_KINDS [.str "begin", .str "seat", .str "ranks", .str "door", .str "say", .str "strike", .str "move"]
  a_WORDS : Addr
  m_WORDS : mg "WORDS" = some (.ref a_WORDS)
  q_WORDS : ∀ H, SqT K H a_WORDS [.str "bar", .str "call", .str "door", .str "move", .str "out", .str "ranks", .str "say", .str "strike"]
  a_SEATS : Addr
  m_SEATS : mg "SEATS" = some (.ref a_SEATS)
  q_SEATS : ∀ H, SqT K H a_SEATS [.str "in", .str "out", .str "called", .str "barred"]
  a_DOORS : Addr
  m_DOORS : mg "DOORS" = some (.ref a_DOORS)
  q_DOORS : ∀ H, SqT K H a_DOORS [.str "open", .str "asked"]
  a_RULES : Addr
  m_RULES : mg "RULES" = some (.ref a_RULES)
  q_RULES : ∀ H, SqT K H a_RULES [.int 1, .int 2]
  a_LEAST : Addr
  m_LEAST : mg "LEAST" = some (.ref a_LEAST)
  q_LEAST : ∀ H, SqT K H a_LEAST [.str "", .int 0]
  a_BODIES : Addr
  m_BODIES : mg "BODIES" = some (.ref a_BODIES)
  b_begin : KDct K w a_BODIES "begin" (.ref T.f_is_begin_body)
  b_seat : KDct K w a_BODIES "seat" (.ref T.f_is_seat_body)
  b_ranks : KDct K w a_BODIES "ranks" (.ref T.f_is_ranks_body)
  b_door : KDct K w a_BODIES "door" (.ref T.f_is_door_body)
  b_say : KDct K w a_BODIES "say" (.ref T.f_is_say_body)
  b_strike : KDct K w a_BODIES "strike" (.ref T.f_is_strike_body)
  b_move : KDct K w a_BODIES "move" (.ref T.f_is_rules)
theorem ref_eq {mg : Str → Option Value} {x : Str} {a b : Addr} (h : mg x = some (.ref a)) (k : mg x = some (.ref b)) : a = b := by
  rw [h] at k
  cases k
  rfl
theorem txtx_mk {K : PySem.W.Frag} {h : Heap} {mg : Str → Option Value} {w : World} (X : K.In h) (G : h.Ns mainGlobals mg) (T : Txt K mg)
    {C fi C1 C2 C3 C4 aK aW aS aD aR aB : Addr} {nm qn : Str} {N : Addr} {bs bm : List Value} {sn : List Str} {sub : List Value} {ab : Bool} {col : Option Bool} {dd : Option Addr} {e0 e1 e2 e3 e5 : Option Value}
    {od an : Option Addr} {sl : Array (Option Value)} {oc kV dc pm cd ct : Value}
    (hC : PySem.W.nsIn K mainGlobals "NoDeed" = some (some (.ref C)))
    (hL : K.lookup C = some (excClassObj nm qn C N bs bm true sn sub ab col dd e0 e1 e2 e3 e5 "ValueError.__new__"))
    (hV : PySem.HandSPX.refsVE bm = true)
    (hsa : PySem.W.findIn K (.ref C) "__setattr__" = some (some (.builtin "object.__setattr__")))
    (hex : PySem.W.subIn K (.ref C) (.type "BaseException") = some true)
    (hty : PySem.W.typeIn K (.ref C) = some (.type "type"))
    (hkp : PySem.W.keepIn K (.ref C) = true)
    (hga : PySem.W.findIn K (.ref C) "__getattribute__" = some (some (.builtin "BaseException.__getattribute__")))
    (hgg : PySem.W.findIn K (.ref C) "__getattr__" = some none)
    (hhd : PySem.W.hasDictIn K C = true)
    (hca : PySem.W.findIn K (.ref C) "__class__" = some (some (.builtin "object.__class__")))
    (hcn : PySem.W.specialIn K (.builtin "object.__class__") "__get__" = some (some (.builtin "getset_descriptor.__get__")))
    (hct : PySem.W.takesIn K (.builtin "object.__class__") = some true)
    (hcm : PySem.W.mroIn K C (.type "object") = some true)
    (hi : PySem.W.findIn K (.ref C) "__init__" = some (some (.ref fi)))
    (hit : PySem.W.typeIn K (.ref fi) = some (.type "function"))
    (hil : K.lookup fi = some ⟨oc, od, .func (PySem.W.fnOf "__init__" "NoDeed.__init__" (defArgs i_NoDeed) (defBody i_NoDeed) (defScope i_NoDeed) .none kV dc pm an cd ct), sl⟩)
    (hic : PySem.W.codeIn K cd "NoDeed.__init__" = true)
    (hik : PySem.W.keepIn K (.ref fi) = true)
    (hnf : PySem.W.findIn K (.ref C) "part" = some none)
    (hss : PySem.W.subIn K (.ref C) (.ref C) = some true)
    (hcl : PySem.W.isClsIn K C = true)
    (hsv : PySem.W.subIn K (.ref C) (.type "ValueError") = some true)
    (hvV : PySem.W.findCls K (.type "ValueError") (.type "type") "__init__" = some (.val (.builtin "ValueError.__init__")))
    (h1 : PySem.W.nsIn K mainGlobals "NoText" = some (some (.ref C1)))
    (h2 : PySem.W.nsIn K mainGlobals "NoStates" = some (some (.ref C2)))
    (h3 : PySem.W.nsIn K mainGlobals "NoRow" = some (some (.ref C3)))
    (h4 : PySem.W.nsIn K mainGlobals "Barred" = some (some (.ref C4)))
    (s1 : PySem.W.subIn K (.ref C) (.ref C1) = some false)
    (i1 : PySem.W.isClsIn K C1 = true)
    (y1 : PySem.W.typeIn K (.ref C1) = some (.type "type"))
    (s2 : PySem.W.subIn K (.ref C) (.ref C2) = some false)
    (i2 : PySem.W.isClsIn K C2 = true)
    (y2 : PySem.W.typeIn K (.ref C2) = some (.type "type"))
    (s3 : PySem.W.subIn K (.ref C) (.ref C3) = some false)
    (i3 : PySem.W.isClsIn K C3 = true)
    (y3 : PySem.W.typeIn K (.ref C3) = some (.type "type"))
    (s4 : PySem.W.subIn K (.ref C) (.ref C4) = some false)
    (i4 : PySem.W.isClsIn K C4 = true)
    (y4 : PySem.W.typeIn K (.ref C4) = some (.type "type"))
    {tKINDS0 tKINDS1 tKINDS2 tKINDS3 tKINDS4 tKINDS5 tKINDS6 : Tok} {nKINDS : Nat} {dKINDS : Option Addr} {sKINDS : Array (Option Value)}
    (gKINDS : PySem.W.nsIn K mainGlobals "KINDS" = some (some (.ref aK)))
    (lKINDS : K.lookup aK = some ⟨.type "tuple", dKINDS, .seq #[.str "begin" tKINDS0, .str "seat" tKINDS1, .str "ranks" tKINDS2, .str "door" tKINDS3, .str "say" tKINDS4, .str "strike" tKINDS5, .str "move" tKINDS6] nKINDS, sKINDS⟩)
    {tWORDS0 tWORDS1 tWORDS2 tWORDS3 tWORDS4 tWORDS5 tWORDS6 tWORDS7 : Tok} {nWORDS : Nat} {dWORDS : Option Addr} {sWORDS : Array (Option Value)}
    (gWORDS : PySem.W.nsIn K mainGlobals "WORDS" = some (some (.ref aW)))
    (lWORDS : K.lookup aW = some ⟨.type "tuple", dWORDS, .seq #[.str "bar" tWORDS0, .str "call" tWORDS1, .str "door" tWORDS2, .str "move" tWORDS3, .str "out" tWORDS4, .str "ranks" tWORDS5, .str "say" tWORDS6, .str "strike" tWORDS7] nWORDS, sWORDS⟩)
    {tSEATS0 tSEATS1 tSEATS2 tSEATS3 : Tok} {nSEATS : Nat} {dSEATS : Option Addr} {sSEATS : Array (Option Value)}
    (gSEATS : PySem.W.nsIn K mainGlobals "SEATS" = some (some (.ref aS)))
    (lSEATS : K.lookup aS = some ⟨.type "tuple", dSEATS, .seq #[.str "in" tSEATS0, .str "out" tSEATS1, .str "called" tSEATS2, .str "barred" tSEATS3] nSEATS, sSEATS⟩)
    {tDOORS0 tDOORS1 : Tok} {nDOORS : Nat} {dDOORS : Option Addr} {sDOORS : Array (Option Value)}
    (gDOORS : PySem.W.nsIn K mainGlobals "DOORS" = some (some (.ref aD)))
    (lDOORS : K.lookup aD = some ⟨.type "tuple", dDOORS, .seq #[.str "open" tDOORS0, .str "asked" tDOORS1] nDOORS, sDOORS⟩)
    {tRULES0 tRULES1 : Tok} {nRULES : Nat} {dRULES : Option Addr} {sRULES : Array (Option Value)}
    (gRULES : PySem.W.nsIn K mainGlobals "RULES" = some (some (.ref aR)))
    (lRULES : K.lookup aR = some ⟨.type "tuple", dRULES, .seq #[.int 1 tRULES0, .int 2 tRULES1] nRULES, sRULES⟩)
    {aL : Addr} {tLEAST0 tLEAST1 : Tok} {nLEAST : Nat} {dLEAST : Option Addr} {sLEAST : Array (Option Value)}
    (gLEAST : PySem.W.nsIn K mainGlobals "LEAST" = some (some (.ref aL)))
    (lLEAST : K.lookup aL = some ⟨.type "tuple", dLEAST, .seq #[.str "" tLEAST0, .int 0 tLEAST1] nLEAST, sLEAST⟩)
    {es : Array DictEntry} {nB : Nat}
    (gB : PySem.W.nsIn K mainGlobals "BODIES" = some (some (.ref aB)))
    (lB : K.lookup aB = some ⟨.type "dict", none, .dict es nB, #[]⟩)
    (kB : PySem.W.KeysLit w.params es.toList)
    {u_begin : Addr}
    (v_begin : PySem.W.nsIn K aB "begin" = some (some (.ref u_begin)))
    (w_begin : PySem.W.nsIn K mainGlobals "is_begin_body" = some (some (.ref u_begin)))
    {u_seat : Addr}
    (v_seat : PySem.W.nsIn K aB "seat" = some (some (.ref u_seat)))
    (w_seat : PySem.W.nsIn K mainGlobals "is_seat_body" = some (some (.ref u_seat)))
    {u_ranks : Addr}
    (v_ranks : PySem.W.nsIn K aB "ranks" = some (some (.ref u_ranks)))
    (w_ranks : PySem.W.nsIn K mainGlobals "is_ranks_body" = some (some (.ref u_ranks)))
    {u_door : Addr}
    (v_door : PySem.W.nsIn K aB "door" = some (some (.ref u_door)))
    (w_door : PySem.W.nsIn K mainGlobals "is_door_body" = some (some (.ref u_door)))
    {u_say : Addr}
    (v_say : PySem.W.nsIn K aB "say" = some (some (.ref u_say)))
    (w_say : PySem.W.nsIn K mainGlobals "is_say_body" = some (some (.ref u_say)))
    {u_strike : Addr}
    (v_strike : PySem.W.nsIn K aB "strike" = some (some (.ref u_strike)))
    (w_strike : PySem.W.nsIn K mainGlobals "is_strike_body" = some (some (.ref u_strike)))
    {u_move : Addr}
    (v_move : PySem.W.nsIn K aB "move" = some (some (.ref u_move)))
    (w_move : PySem.W.nsIn K mainGlobals "is_rules" = some (some (.ref u_move)))
    : Nonempty (TxtX K mg w T) := by
  have Fi := fun_mk (st := i_NoDeed) hil hic hik
  have bi := Fi.binds (ps := ["self", "part"]) fun _ _ _ _ _ _ us hl => match us, hl with | [_, _], _ => rfl
  have q_begin : u_begin = T.f_is_begin_body := ref_eq (PySem.W.mg_of X G w_begin) T.m_is_begin_body
  have q_seat : u_seat = T.f_is_seat_body := ref_eq (PySem.W.mg_of X G w_seat) T.m_is_seat_body
  have q_ranks : u_ranks = T.f_is_ranks_body := ref_eq (PySem.W.mg_of X G w_ranks) T.m_is_ranks_body
  have q_door : u_door = T.f_is_door_body := ref_eq (PySem.W.mg_of X G w_door) T.m_is_door_body
  have q_say : u_say = T.f_is_say_body := ref_eq (PySem.W.mg_of X G w_say) T.m_is_say_body
  have q_strike : u_strike = T.f_is_strike_body := ref_eq (PySem.W.mg_of X G w_strike) T.m_is_strike_body
  have q_move : u_move = T.f_is_rules := ref_eq (PySem.W.mg_of X G w_move) T.m_is_rules
  exact ⟨{
    C := C, mC := PySem.W.mg_of X G hC, ox := ⟨⟨_, _, _, _, _, _, _, _, _, _, _, _, _, _, _, hL, hV⟩, hsa, hex, hty, hkp⟩, xf := ⟨hga, hgg, hex, hhd⟩, ec := ⟨hga, hgg, hex, hhd, hca, hcn, hct, hcm⟩,
    fi := fi, di := _, Fi := Fi, bi := bi, iC := hi, tI := hit, nf := hnf, te := exm_own hex hcl hty hss, kv := kit_typ hsv (by decide +kernel), vV := hvV, C1 := C1, C2 := C2, C3 := C3, C4 := C4,
    m1 := PySem.W.mg_of X G h1, m2 := PySem.W.mg_of X G h2, m3 := PySem.W.mg_of X G h3, m4 := PySem.W.mg_of X G h4, ka := kitAny_cons (kit_own hss s1 i1 y1) (fun _ => kitAny_cons (kit_own hss s2 i2 y2) (fun _ => kitAny_cons (kit_own hss s3 i3 y3) (fun _ => kitAny_cons (kit_own hss s4 i4 y4) (fun _ => kitAny_nil) nofun) nofun) nofun) nofun,
    a_KINDS := aK, m_KINDS := PySem.W.mg_of X G gKINDS, q_KINDS := fun H => .inr ⟨_, _, _, lKINDS, rfl, rfl, (show 7 ≤ sizeLine by decide), (.cons ⟨_, rfl⟩ (.cons ⟨_, rfl⟩ (.cons ⟨_, rfl⟩ (.cons ⟨_, rfl⟩ (.cons ⟨_, rfl⟩ (.cons ⟨_, rfl⟩ (.cons ⟨_, rfl⟩ .nil)))))))⟩,
    a_WORDS := aW, m_WORDS := PySem.W.mg_of X G gWORDS, q_WORDS := fun H => .inr ⟨_, _, _, lWORDS, rfl, rfl, (show 8 ≤ sizeLine by decide), (.cons ⟨_, rfl⟩ (.cons ⟨_, rfl⟩ (.cons ⟨_, rfl⟩ (.cons ⟨_, rfl⟩ (.cons ⟨_, rfl⟩ (.cons ⟨_, rfl⟩ (.cons ⟨_, rfl⟩ (.cons ⟨_, rfl⟩ .nil))))))))⟩,
    a_SEATS := aS, m_SEATS := PySem.W.mg_of X G gSEATS, q_SEATS := fun H => .inr ⟨_, _, _, lSEATS, rfl, rfl, (show 4 ≤ sizeLine by decide), (.cons ⟨_, rfl⟩ (.cons ⟨_, rfl⟩ (.cons ⟨_, rfl⟩ (.cons ⟨_, rfl⟩ .nil))))⟩,
    a_DOORS := aD, m_DOORS := PySem.W.mg_of X G gDOORS, q_DOORS := fun H => .inr ⟨_, _, _, lDOORS, rfl, rfl, (show 2 ≤ sizeLine by decide), (.cons ⟨_, rfl⟩ (.cons ⟨_, rfl⟩ .nil))⟩,
    a_RULES := aR, m_RULES := PySem.W.mg_of X G gRULES, q_RULES := fun H => .inr ⟨_, _, _, lRULES, rfl, rfl, (show 2 ≤ sizeLine by decide), (.cons ⟨_, rfl⟩ (.cons ⟨_, rfl⟩ .nil))⟩,
    a_LEAST := aL, m_LEAST := PySem.W.mg_of X G gLEAST, q_LEAST := fun H => .inr ⟨_, _, _, lLEAST, rfl, rfl, (show 2 ≤ sizeLine by decide), (.cons ⟨_, rfl⟩ (.cons ⟨_, rfl⟩ .nil))⟩,
    a_BODIES := aB, m_BODIES := PySem.W.mg_of X G gB,
    b_begin := ⟨_, _, _, lB, kB, v_begin, by rw [q_begin]; rfl⟩, b_seat := ⟨_, _, _, lB, kB, v_seat, by rw [q_seat]; rfl⟩, b_ranks := ⟨_, _, _, lB, kB, v_ranks, by rw [q_ranks]; rfl⟩, b_door := ⟨_, _, _, lB, kB, v_door, by rw [q_door]; rfl⟩, b_say := ⟨_, _, _, lB, kB, v_say, by rw [q_say]; rfl⟩, b_strike := ⟨_, _, _, lB, kB, v_strike, by rw [q_strike]; rfl⟩, b_move := ⟨_, _, _, lB, kB, v_move, by rw [q_move]; rfl⟩ }⟩
end K05

namespace K05
open PySem PySem.Spec PyProof.Rows L2 Br
def oneOfD (ts : List Str) : PyData → Bool
  | .str z => decide (z ∈ ts)
  | _ => false
def pairD : PyData → Bool
  | .tuple [_, _] => true
  | _ => false
def rulesD : PyData → Bool
  | .int i => decide (i = 1 ∨ i = 2)
  | _ => false
def isNonD : PyData → Bool
  | .none => true
  | _ => false
def beginD : PyData → Bool
  | .tuple [a, b] => rulesD a && (isNonD b || nameD b)
  | _ => false
def sayD : PyData → Bool
  | .str z => decide (z.length ≤ 80) && z.cps.toList.all signC
  | _ => false
def kindsL : List Str := ["begin", "seat", "ranks", "door", "say", "strike", "move"]
def wordsL : List Str := ["bar", "call", "door", "move", "out", "ranks", "say", "strike"]
def seatsL : List Str := ["in", "out", "called", "barred"]
def doorsL : List Str := ["open", "asked"]
def spOneOf (K : PySem.W.Frag) : Sp := fun vs H Q _ => ∃ (v : V) (d : PyData) (t : Addr) (ts : List Str), vs = [v, .ref t] ∧ Th K H v d ∧ SqT K H t (ts.map V.str) ∧ ∀ H', Same H H' → Q (.bl (oneOfD ts d)) H'
theorem inV_strs (z : Str) : ∀ ts : List Str, inV (.str z) (ts.map V.str) = decide (z ∈ ts)
  | [] => rfl
  | t :: ts => by
    have ih := inV_strs z ts
    show (t == z || inV (.str z) (ts.map V.str)) = _
    rw [ih]
    by_cases e : t = z
    · subst e
      simp
    · have e' : (t == z) = false := by simpa using e
      have e2 : ¬ z = t := fun q => e q.symm
      simp [e', e2]
theorem flat_strs : ∀ ts : List Str, (ts.map V.str).all flatV = true
  | [] => rfl
  | _ :: ts => flat_strs ts
section
variable {P : Program} {w : World} {K : PySem.W.Frag} {mg : Str → Option Value} {base : Heap}
theorem ok_is_one_of (T : Txt K mg) : FnOk P w K mg base CX0 1 T.f_is_one_of T.d_is_one_of ["thing", "texts"] (spOneOf K) := by
  refine T.F_is_one_of.ok sc_is_one_of (fun vs H Q E h => ?_) (fun cdv A outer s H vs Q E hr h => ?_)
  · obtain ⟨v, d, t, ts, rfl, _⟩ := h
    rfl
  obtain ⟨v, d, t, ts, rfl, ht, hT, q⟩ := h
  refine ⟨_, (pss_one (ps_ret (pe_and (pe_callB call_isi (by rfl) T.z_isinstance (by decide +kernel) (pa_cons (pv 0) (pa_cons (pe_bltn (v := .ty "str") (by rfl) T.z_str (by decide +kernel) rfl) pa_nil))) (pe_one (pe_cmpR op_in_seq (pv 0) (pv 1) (by rfl)))))), ?_⟩
  refine ⟨v, rfl, v, .ty "str", _, _, _, rfl, .ty _, ht.ty, kit_str d, _, rfl, ?_⟩
  have q' := q H (Same.refl H)
  rcases ht.strq with ⟨z, rfl, rfl, hz, ha⟩ | hn
  · refine ⟨_, rfl, _, rfl, t, _, rfl, .inr hT, rfl, flat_strs ts, ?_⟩
    have e : oneOfD ts (.str z) = inV (.str z) (ts.map V.str) := (inV_strs z ts).symm
    rw [e] at q'
    exact q'
  · have e : oneOfD ts d = false := by
      cases d with
      | str z => cases hn
      | _ => rfl
    rw [e] at q'
    rw [hn]
    exact q'
theorem ok_is_pair (T : Txt K mg) : FnOk P w K mg base CX0 1 T.f_is_pair T.d_is_pair ["thing"] (spLook K pairD) := by
  refine T.F_is_pair.ok sc_is_pair (fun vs H Q E h => ?_) (fun cdv A outer s H vs Q E hr h => ?_)
  · obtain ⟨v, d, rfl, _⟩ := h
    rfl
  obtain ⟨v, d, rfl, ht, q⟩ := h
  refine ⟨_, (pss_one (ps_ret (pe_and (pe_callB call_isi (by rfl) T.z_isinstance (by decide +kernel) (pa_cons (pv 0) (pa_cons (pe_bltn (v := .ty "tuple") (by rfl) T.z_tuple (by decide +kernel) rfl) pa_nil))) (pe_one (pe_cmpR op_eq (pe_callB call_len_seq (by rfl) T.z_len PySem.boot_len (pa_cons (pv 0) pa_nil)) pe_int (nomark _)))))), ?_⟩
  refine ⟨v, rfl, v, .ty "tuple", _, _, _, rfl, .ty _, ht.ty, kit_tup d, _, rfl, ?_⟩
  have q' := q H (Same.refl H)
  rcases ht.tupq with ⟨a, xs, ds, rfl, rfl, hs, ha, sm⟩ | hn
  · refine ⟨_, rfl, a, xs, rfl, .inr hs, rfl, ?_⟩
    have hl := dps_length ha
    have e : pairD (.tuple ds) = decide (V.int (xs.length : Nat) = V.int 2) := by
      rw [hl]
      match ds with
      | [] => rfl
      | [_] => rfl
      | [_, _] => rfl
      | _ :: _ :: _ :: r =>
        refine (decide_eq_false fun z => ?_).symm
        have := V.int.inj z
        simp only [List.length_cons] at this
        omega
    rw [e] at q'
    exact q'
  · have e : pairD d = false := by
      cases d with
      | tuple _ => cases hn
      | _ => rfl
    rw [e] at q'
    rw [hn]
    exact q'
theorem ok_is_rules (T : Txt K mg) (Y : TxtX K mg w T) : FnOk P w K mg base CX0 2 T.f_is_rules T.d_is_rules ["thing"] (spLook K rulesD) := by
  have O_is_whole : FnOk P w K mg base CX0 1 _ _ _ _ := ok_is_whole T
  refine T.F_is_rules.ok sc_is_rules (fun vs H Q E h => ?_) (fun cdv A outer s H vs Q E hr h => ?_)
  · obtain ⟨v, d, rfl, _⟩ := h
    rfl
  obtain ⟨v, d, rfl, ht, q⟩ := h
  refine ⟨_, (pss_one (ps_ret (pe_and (pe_call O_is_whole (hr.mono (by decide)) (by rfl) T.m_is_whole T.F_is_whole.kp T.b_is_whole .nil pass0 (pa_cons (pv 0) pa_nil)) (pe_one (pe_cmpR op_in_seq (pv 0) (pe_glob (v := .ref Y.a_RULES) (by rfl) Y.m_RULES rfl) (by rfl)))))), ?_⟩
  refine ⟨v, rfl, v, d, rfl, ht, fun H1 s1 => ⟨_, rfl, ?_⟩⟩
  have q' := q H1 s1
  rcases ht.intq with ⟨i, rfl, rfl⟩ | hn
  · refine ⟨_, rfl, Y.a_RULES, _, rfl, .inr (Y.q_RULES H1), rfl, rfl, ?_⟩
    have e : rulesD (.int i) = inV (.int i) [.int 1, .int 2] := by
      show decide (i = 1 ∨ i = 2) = ((1 == i) || ((2 == i) || false))
      by_cases h1 : i = 1
      · subst h1; rfl
      · by_cases h2 : i = 2
        · subst h2; rfl
        · have e1 : ((1 : Int) == i) = false := by simpa using fun z => h1 z.symm
          have e2 : ((2 : Int) == i) = false := by simpa using fun z => h2 z.symm
          rw [e1, e2]
          exact decide_eq_false (by omega)
    rw [e] at q'
    exact q'
  · have e : rulesD d = false := by
      cases d with
      | int i => cases hn
      | _ => rfl
    rw [e] at q'
    rw [hn]
    exact q'
theorem Th.non_iff {H : Hp} {v : V} {d : PyData} (t : Th K H v d) : decide (v = V.non) = isNonD d := by
  cases t with
  | dict h => rfl
  | dp h s =>
    cases h with
    | non => rfl
    | bl b => exact decide_eq_false nofun
    | int b => exact decide_eq_false nofun
    | str b => exact decide_eq_false nofun
    | lst _ _ => exact decide_eq_false nofun
    | tup _ _ => exact decide_eq_false nofun
/-- a pair, by its parts -/
theorem Th.pairq {H : Hp} {v : V} {d : PyData} (t : Th K H v d) (h : pairD d = true) : ∃ a x0 x1 d0 d1, v = .ref a ∧ d = .tuple [d0, d1] ∧ SqT K H a [x0, x1] ∧ Th K H x0 d0 ∧ Th K H x1 d1 := by
  rcases t.tupq with ⟨a, xs, ds, rfl, rfl, hs, ha, sm⟩ | hn
  · have n2 : xs.length = 2 := by
      rw [dps_length ha]
      cases ds with
      | nil => cases h
      | cons x r =>
        cases r with
        | nil => cases h
        | cons y r =>
          cases r with
          | nil => rfl
          | cons z r => cases h
    obtain ⟨x0, x1, d0, d1, rfl, rfl, h0, h1⟩ := dp2 ha n2
    exact ⟨a, x0, x1, d0, d1, rfl, rfl, hs, .dp h0 (okAll_mem sm.1 _ (by simp)), .dp h1 (okAll_mem sm.1 _ (by simp))⟩
  · cases d with
    | tuple _ => cases hn
    | _ => cases h
theorem not_pair {d : PyData} (c : ¬ pairD d = true) : beginD d = false := by
  cases d with
  | tuple ds =>
    cases ds with
    | nil => rfl
    | cons x r =>
      cases r with
      | nil => rfl
      | cons y r =>
        cases r with
        | nil => exact absurd rfl c
        | cons z r => rfl
  | _ => rfl
theorem ok_is_begin_body (T : Txt K mg) (Y : TxtX K mg w T) : FnOk P w K mg base CX0 4 T.f_is_begin_body T.d_is_begin_body ["body"] (spLook K beginD) := by
  have O_is_pair : FnOk P w K mg base CX0 1 _ _ _ _ := ok_is_pair T
  have O_is_rules : FnOk P w K mg base CX0 2 _ _ _ _ := ok_is_rules T Y
  have O_is_name : FnOk P w K mg base CX0 3 _ _ _ _ := ok_is_name T
  refine T.F_is_begin_body.ok sc_is_begin_body (fun vs H Q E h => ?_) (fun cdv A outer s H vs Q E hr h => ?_)
  · obtain ⟨v, d, rfl, _⟩ := h
    rfl
  obtain ⟨v, d, rfl, ht, q⟩ := h
  refine ⟨_, (pss_one (ps_ret (pe_and (pe_call O_is_pair (hr.mono (by decide)) (by rfl) T.m_is_pair T.F_is_pair.kp T.b_is_pair .nil pass0 (pa_cons (pv 0) pa_nil)) (pe_and (pe_call O_is_rules (hr.mono (by decide)) (by rfl) T.m_is_rules T.F_is_rules.kp T.b_is_rules .nil pass0 (pa_cons (pe_ix (ix_tupK K) (pv 0) pe_int (fun _ _ => rfl)) pa_nil)) (pe_one (pe_or (pe_cmpR op_isN (pe_ix (ix_tupK K) (pv 0) pe_int (fun _ _ => rfl)) pe_non (nomark _)) (pe_one (pe_call O_is_name (hr.mono (by decide)) (by rfl) T.m_is_name T.F_is_name.kp T.b_is_name .nil pass0 (pa_cons (pe_ix (ix_tupK K) (pv 0) pe_int (fun _ _ => rfl)) pa_nil))))))))), ?_⟩
  refine ⟨v, rfl, v, d, rfl, ht, fun H1 s1 => ⟨_, rfl, ?_⟩⟩
  refine ite2 (fun c => ?_) (fun c => ?_)
  · obtain ⟨a, x0, x1, d0, d1, rfl, rfl, hs, t0, t1⟩ := ht.pairq c
    have en : beginD (.tuple [d0, d1]) = (rulesD d0 && (isNonD d1 || nameD d1)) := rfl
    rw [en] at q
    refine ⟨_, rfl, a, _, 0, x0, rfl, rfl, same_seqT s1 hs, rfl, x0, d0, rfl, t0.same s1, fun H2 s2 => ⟨_, rfl, ?_⟩⟩
    have S2 := s1.trans s2
    refine ite2 (fun c2 => ?_) (fun c2 => ?_)
    · rw [c2] at q
      refine ⟨_, rfl, a, _, 1, x1, rfl, rfl, same_seqT S2 hs, rfl, rfl, _, rfl, ?_⟩
      rw [t1.non_iff]
      refine ite2 (fun c3 => ?_) (fun c3 => ?_)
      · rw [c3] at q
        exact q H2 S2
      · rw [Bool.eq_false_iff.mpr c3] at q
        refine ⟨_, rfl, a, _, 1, x1, rfl, rfl, same_seqT S2 hs, rfl, x1, d1, rfl, t1.same S2, fun H3 s3 => ?_⟩
        exact q H3 (S2.trans s3)
    · rw [Bool.eq_false_iff.mpr c2] at q
      exact q H2 S2
  · rw [not_pair c] at q
    exact q H1 s1
theorem ok_is_seat_body (T : Txt K mg) (Y : TxtX K mg w T) : FnOk P w K mg base CX0 2 T.f_is_seat_body T.d_is_seat_body ["body"] (spLook K (oneOfD seatsL)) := by
  have O_is_one_of : FnOk P w K mg base CX0 1 _ _ _ _ := ok_is_one_of T
  refine T.F_is_seat_body.ok sc_is_seat_body (fun vs H Q E h => ?_) (fun cdv A outer s H vs Q E hr h => ?_)
  · obtain ⟨v, d, rfl, _⟩ := h
    rfl
  obtain ⟨v, d, rfl, ht, q⟩ := h
  refine ⟨_, (pss_one (ps_ret (pe_call O_is_one_of (hr.mono (by decide)) (by rfl) T.m_is_one_of T.F_is_one_of.kp T.b_is_one_of .nil pass0 (pa_cons (pv 0) (pa_cons (pe_glob (v := .ref Y.a_SEATS) (by rfl) Y.m_SEATS rfl) pa_nil))))), ?_⟩
  exact ⟨v, rfl, v, d, Y.a_SEATS, seatsL, rfl, ht, Y.q_SEATS H, fun H1 s1 => q H1 s1⟩
theorem ok_is_door_body (T : Txt K mg) (Y : TxtX K mg w T) : FnOk P w K mg base CX0 2 T.f_is_door_body T.d_is_door_body ["body"] (spLook K (oneOfD doorsL)) := by
  have O_is_one_of : FnOk P w K mg base CX0 1 _ _ _ _ := ok_is_one_of T
  refine T.F_is_door_body.ok sc_is_door_body (fun vs H Q E h => ?_) (fun cdv A outer s H vs Q E hr h => ?_)
  · obtain ⟨v, d, rfl, _⟩ := h
    rfl
  obtain ⟨v, d, rfl, ht, q⟩ := h
  refine ⟨_, (pss_one (ps_ret (pe_call O_is_one_of (hr.mono (by decide)) (by rfl) T.m_is_one_of T.F_is_one_of.kp T.b_is_one_of .nil pass0 (pa_cons (pv 0) (pa_cons (pe_glob (v := .ref Y.a_DOORS) (by rfl) Y.m_DOORS rfl) pa_nil))))), ?_⟩
  exact ⟨v, rfl, v, d, Y.a_DOORS, doorsL, rfl, ht, Y.q_DOORS H, fun H1 s1 => q H1 s1⟩
theorem ok_is_wanted_word (T : Txt K mg) (Y : TxtX K mg w T) : FnOk P w K mg base CX0 2 T.f_is_wanted_word T.d_is_wanted_word ["thing"] (spLook K (oneOfD wordsL)) := by
  have O_is_one_of : FnOk P w K mg base CX0 1 _ _ _ _ := ok_is_one_of T
  refine T.F_is_wanted_word.ok sc_is_wanted_word (fun vs H Q E h => ?_) (fun cdv A outer s H vs Q E hr h => ?_)
  · obtain ⟨v, d, rfl, _⟩ := h
    rfl
  obtain ⟨v, d, rfl, ht, q⟩ := h
  refine ⟨_, (pss_one (ps_ret (pe_call O_is_one_of (hr.mono (by decide)) (by rfl) T.m_is_one_of T.F_is_one_of.kp T.b_is_one_of .nil pass0 (pa_cons (pv 0) (pa_cons (pe_glob (v := .ref Y.a_WORDS) (by rfl) Y.m_WORDS rfl) pa_nil))))), ?_⟩
  exact ⟨v, rfl, v, d, Y.a_WORDS, wordsL, rfl, ht, Y.q_WORDS H, fun H1 s1 => q H1 s1⟩
theorem ok_is_strike_body (T : Txt K mg) : FnOk P w K mg base CX0 4 T.f_is_strike_body T.d_is_strike_body ["body"] (spLook K nameD) := by
  have O_is_name : FnOk P w K mg base CX0 3 _ _ _ _ := ok_is_name T
  refine T.F_is_strike_body.ok sc_is_strike_body (fun vs H Q E h => ?_) (fun cdv A outer s H vs Q E hr h => ?_)
  · obtain ⟨v, d, rfl, _⟩ := h
    rfl
  obtain ⟨v, d, rfl, ht, q⟩ := h
  refine ⟨_, (pss_one (ps_ret (pe_call O_is_name (hr.mono (by decide)) (by rfl) T.m_is_name T.F_is_name.kp T.b_is_name .nil pass0 (pa_cons (pv 0) pa_nil)))), ?_⟩
  exact ⟨v, rfl, v, d, rfl, ht, fun H1 s1 => q H1 s1⟩
end
end K05

namespace K05
open PySem PySem.Spec PyProof.Rows L2 Br
def emptyD : PyData → Bool
  | .str z => decide (V.str z = V.str "")
  | _ => false
def aboutD (k : Str) (d : PyData) : Bool := if V.str k = V.str "seat" then personD d else emptyD d
def ltS (x y : Str) : Bool := decide (x.cps.toList < y.cps.toList)
def riseS (ys : List Str) : Bool := ((ys.zip (ys.drop 1)).map fun p => ltS p.1 p.2).all id
def spAbout (K : PySem.W.Frag) : Sp := fun vs H Q _ => ∃ (k : Str) (v : V) (d : PyData), vs = [.str k, v] ∧ Th K H v d ∧ ∀ H', Same H H' → Q (.bl (aboutD k d)) H'
def spRiseS (K : PySem.W.Frag) : Sp := fun vs H Q _ => ∃ (a : Addr) (ys : List Str), vs = [.ref a] ∧ SqL K H a (ys.map V.str) ∧ ys.length ≤ 1000 ∧ ∀ H', Same H H' → Q (.bl (riseS ys)) H'
theorem ble_sign (c : Nat) : (!decide ([c] < [32])) = decide (32 ≤ c) := by
  rw [nat1_lt]
  by_cases h : c < 32
  · rw [decide_eq_true h, decide_eq_false (by omega)]; rfl
  · rw [decide_eq_false h, decide_eq_true (by omega)]; rfl
theorem sign_tle (c : Nat) : (!decide ([126] < [c])) = decide (c ≤ 126) := by
  rw [nat1_lt]
  by_cases h : 126 < c
  · rw [decide_eq_true h, decide_eq_false (by omega)]; rfl
  · rw [decide_eq_false h, decide_eq_true (by omega)]; rfl
theorem cut_one (xs : List V) : cutV xs (some 1) none = xs.drop 1 := by
  unfold cutV
  rw [show HT.sIx xs.length 0 (some 1) = min 1 xs.length from HT.sIx_nat xs.length 0 1, HT.sIx_none]
  cases xs with
  | nil => rfl
  | cons x r =>
    have e : min 1 (x :: r).length = 1 := by rw [List.length_cons]; omega
    rw [e]
    show List.take ((x :: r).length - 1) r = r
    rw [List.length_cons, Nat.add_sub_cancel, List.take_length]
section
variable {P : Program} {w : World} {K : PySem.W.Frag} {mg : Str → Option Value} {base : Heap}
theorem ok_is_say_body (T : Txt K mg) : FnOk P w K mg base CX0 1 T.f_is_say_body T.d_is_say_body ["body"] (spLook K sayD) := by
  refine T.F_is_say_body.ok sc_is_say_body (fun vs H Q E h => ?_) (fun cdv A outer s H vs Q E hr h => ?_)
  · obtain ⟨v, d, rfl, _⟩ := h
    rfl
  obtain ⟨v, d, rfl, ht, q⟩ := h
  refine ⟨_, (pss_one (ps_ret (pe_and (pe_callB call_isi (by rfl) T.z_isinstance (by decide +kernel) (pa_cons (pv 0) (pa_cons (pe_bltn (v := .ty "str") (by rfl) T.z_str (by decide +kernel) rfl) pa_nil))) (pe_and (pe_cmpR op_le (pe_callB call_len_str (by rfl) T.z_len PySem.boot_len (pa_cons (pv 0) pa_nil)) (pe_glob (v := .int 80) (by rfl) T.c_MOST_SIGNS ⟨_, rfl⟩) (nomark _)) (pe_and (pe_m0 PySem.F.slot_str_isascii PySem.F.type_str_isascii mt_isascii (pv 0)) (pe_one (pe_m0 PySem.F.slot_str_isprintable PySem.F.type_str_isprintable mt_isprintable (pv 0)))))))), ?_⟩
  refine ⟨v, rfl, v, .ty "str", _, _, _, rfl, .ty _, ht.ty, kit_str d, _, rfl, ?_⟩
  have q' := q H (Same.refl H)
  rcases ht.strq with ⟨z, rfl, rfl, hz, ha⟩ | hn
  · have es : sayD (.str z) = (decide (z.length ≤ 80) && (Txt.isascii z && Txt.isprintable z)) := by rw [say3]; rfl
    rw [es] at q'
    refine iteT ⟨_, rfl, z, rfl, Nat.le_of_lt (small_len (by omega)), _, _, rfl, rfl, ?_⟩
    refine ⟨_, rfl, ite2 (fun c => ?_) (fun c => ?_)⟩
    · have n : z.length ≤ 80 := by
        have := of_decide_eq_true c
        omega
      rw [decide_eq_true n] at q'
      refine ⟨_, rfl, ⟨z, rfl⟩, z, rfl, rfl, trivial, ?_⟩
      cases c1 : Txt.isascii z with
      | false =>
        rw [c1] at q'
        exact ⟨_, rfl, iteF q'⟩
      | true =>
        rw [c1] at q'
        exact ⟨_, rfl, iteT ⟨_, rfl, ⟨z, rfl⟩, z, rfl, rfl, trivial, q'⟩⟩
    · have n : ¬ z.length ≤ 80 := fun k => c (decide_eq_true (by omega))
      rw [decide_eq_false n] at q'
      exact q'
  · have e : sayD d = false := by
      cases d with
      | str z => cases hn
      | _ => rfl
    rw [e] at q'
    rw [hn]
    exact iteF q'
theorem ok_is_about (T : Txt K mg) : FnOk P w K mg base CX0 4 T.f_is_about T.d_is_about ["kind", "about"] (spAbout K) := by
  have O_is_person : FnOk P w K mg base CX0 3 _ _ _ _ := ok_is_person T
  refine T.F_is_about.ok sc_is_about (fun vs H Q E h => ?_) (fun cdv A outer s H vs Q E hr h => ?_)
  · obtain ⟨k, v, d, rfl, _⟩ := h
    rfl
  obtain ⟨k, v, d, rfl, ht, q⟩ := h
  refine ⟨_, (pss_cons (ps_if (pt_cmpR op_eq (pv 0) pe_str (nomark _))
      (pss_one (ps_ret (pe_call O_is_person (hr.mono (by decide)) (by rfl) T.m_is_person T.F_is_person.kp T.b_is_person .nil pass0 (pa_cons (pv 1) pa_nil)))) pss_nil)
    (pss_one (ps_ret (pe_and (pe_callB call_isi (by rfl) T.z_isinstance (by decide +kernel) (pa_cons (pv 1) (pa_cons (pe_bltn (v := .ty "str") (by rfl) T.z_str (by decide +kernel) rfl) pa_nil))) (pe_one (pe_cmpR op_eq (pv 1) pe_str (nomark _))))))), ?_⟩
  refine ⟨_, rfl, rfl, _, rfl, ?_⟩
  unfold aboutD at q
  refine ite2 (fun c => ?_) (fun c => ?_)
  · have c' := of_decide_eq_true c
    rw [if_pos c'] at q
    exact ⟨v, rfl, v, d, rfl, ht, fun H1 s1 => q H1 s1⟩
  · have c' : ¬ V.str k = V.str "seat" := fun z => c (decide_eq_true z)
    rw [if_neg c'] at q
    refine ⟨v, rfl, v, .ty "str", _, _, _, rfl, .ty _, ht.ty, kit_str d, _, rfl, ?_⟩
    have q' := q H (Same.refl H)
    rcases ht.strq with ⟨z, rfl, rfl, hz, ha⟩ | hn
    · exact ⟨_, rfl, rfl, q'⟩
    · have e : emptyD d = false := by
        cases d with
        | str z => cases hn
        | _ => rfl
      rw [e] at q'
      rw [hn]
      exact q'
theorem zip_get {ys : List Str} {i : Nat} {x y : Str} (hx : ys[i]? = some x) (hy : (ys.drop 1)[i]? = some y) : (ys.zip (ys.drop 1))[i]? = some (x, y) := by
  rw [List.getElem?_zip_eq_some]
  exact ⟨hx, hy⟩
theorem ok_is_rising_s (T : Txt K mg) : FnOk P w K mg base CX0 1 T.f_is_rising T.d_is_rising ["things"] (spRiseS K) := by
  refine T.F_is_rising.ok sc_is_rising (fun vs H Q E h => ?_) (fun cdv A outer s H vs Q E hr h => ?_)
  · obtain ⟨a, ys, rfl, _⟩ := h
    rfl
  obtain ⟨a, ys, rfl, hS, hl, q⟩ := h
  refine ⟨_, (pss_one (ps_ret (pe_callB (cr_all rfl) (by rfl) T.z_all (by decide +kernel) (pa_cons (pe_lc (own := [("low", 1), ("high", 2)]) (g := gTup K 2 (gCons (gName 1) (gCons (gName 2) gNil))) (tt := tYes) rfl sc_is_rising.nd (RZ.pi_zipA (by rfl) T.z_zip (pa_cons (pv 0) (pa_cons (pe_slice sl_list (pv 0) (po_some pe_int) po_none) pa_nil))) (blkOk_by (own := [("low", 1), ("high", 2)]) (N := ["things", "low", "high"]) (sc := defScope s_is_rising) (by decide +kernel)) (fun _ _ _ _ _ => pg_tup rfl (pgs_cons (pg_name (i := 1) sc_is_rising.nd rfl (Or.inl rfl)) (pgs_cons (pg_name (i := 2) sc_is_rising.nd rfl (Or.inl rfl)) pgs_nil))) (fun _ _ _ _ _ => pts_nil) (fun _ _ _ _ _ => (pe_cmpR op_lt_str (pv 1) (pv 2) (nomark _)))) pa_nil)))), ?_⟩
  refine ⟨_, rfl, _, rfl, 1, rfl, a, _, rfl, hS, fun c nc => ?_⟩
  have s1 : Same H (upd H c (.lst (cutV (ys.map V.str) (some 1) none))) := same_new nc
  have hc : (upd H c (.lst (cutV (ys.map V.str) (some 1) none))) c = some (.lst ((ys.drop 1).map V.str)) := by rw [upd_same, cut_one, List.map_drop]
  generalize upd H c (.lst (cutV (ys.map V.str) (some 1) none)) = H0 at *
  refine ⟨a, c, ys.map V.str, (ys.drop 1).map V.str, rfl, .inl ⟨s1.seq hS, SqL.of hc, fun D nD => ?_⟩⟩
  refine lc_it (walk_zip (n := ys.length - 1) (xs := ys.map V.str) (ys := (ys.drop 1).map V.str) (by rw [List.length_map, List.length_map, List.length_drop]; omega)) (fun i H' => Same H0 H' ∧ H' D = some (.lst (((ys.zip (ys.drop 1)).take i).map fun p => V.bl (ltS p.1 p.2))))
    ⟨same_new nD, upd_same⟩ (fun _ _ _ hp => ⟨hp.1.seq (s1.seq hS), hp.1.seq (SqL.of hc)⟩) (fun i x H1 H2 hi hp hy => ?_) (fun H1 hp => ?_)
  · obtain ⟨t1, hD⟩ := hp
    obtain ⟨U, x1, x2, rfl, nU, rfl, f1, f2⟩ := hy
    replace f1 : (ys.map V.str)[i]? = some x1 := f1
    replace f2 : ((ys.drop 1).map V.str)[i]? = some x2 := f2
    rw [List.getElem?_map] at f1 f2
    obtain ⟨y1, g1, rfl⟩ := Option.map_eq_some_iff.mp f1
    obtain ⟨y2, g2, rfl⟩ := Option.map_eq_some_iff.mp f2
    have hz := zip_get g1 g2
    refine ⟨U, [.str y1, .str y2], rfl, .inl (.inl upd_same), rfl, _, _, rfl, _, _, rfl, rfl, rfl, ?_⟩
    refine ⟨_, rfl, _, rfl, _, _, rfl, rfl, _, same_new nU _ _ hD, ?_, fun b o e => ?_, ?_⟩
    · rw [List.length_map, List.length_take, List.length_zip]
      exact small_len (by omega)
    · rw [upd_ne (ne_of_none e nD)]
      exact same_new nU _ _ (t1 b o e)
    · rw [upd_same, ← take_map_succ (fun p : Str × Str => V.bl (ltS p.1 p.2)) hz]
      rfl
  · obtain ⟨t1, hD⟩ := hp
    have e : (ys.zip (ys.drop 1)).take (ys.length - 1) = ys.zip (ys.drop 1) := List.take_of_length_le (by rw [List.length_zip, List.length_drop]; omega)
    rw [e] at hD
    exact ⟨D, (ys.zip (ys.drop 1)).map (fun p : Str × Str => ltS p.1 p.2), rfl, SqL.of (by rw [hD, List.map_map]; rfl), q H1 (s1.trans t1)⟩
end
end K05

namespace K05
open PySem PySem.Spec PyProof.Rows L2 Br
def riseN (ns : List (Str × Int)) : Bool := ((ns.zip (ns.drop 1)).map fun p => ltN p.1 p.2).all id
def spRiseN (K : PySem.W.Frag) : Sp := fun vs H Q _ => ∃ (a : Addr) (us : List V) (nms : List (Str × Int)), vs = [.ref a] ∧ SqT K H a us ∧ Paired (NameAt K H) us nms ∧ nms.length ≤ 1000 ∧ ∀ H', Same H H' → Q (.bl (riseN nms)) H'
theorem name_same {K : PySem.W.Frag} {H H' : Hp} (e : Same H H') : ∀ {us : List V} {ns : List (Str × Int)}, Paired (NameAt K H) us ns → Paired (NameAt K H') us ns
  | _, _, .nil => .nil
  | _, _, .cons ⟨b, h1, h2⟩ r => .cons ⟨b, h1, same_seqT e h2⟩ (name_same e r)
theorem paired_get {α β : Type} {R : α → β → Prop} : ∀ {us : List α} {ns : List β} {i : Nat} {u : α}, Paired R us ns → us[i]? = some u → ∃ n, ns[i]? = some n ∧ R u n
  | _, _, _, _, .nil, h => by simp at h
  | _, _, 0, _, .cons r _, h => by simp at h; subst h; exact ⟨_, rfl, r⟩
  | _, _, i + 1, _, .cons _ t, h => by
    obtain ⟨n, h1, h2⟩ := paired_get (i := i) t (by simpa using h)
    exact ⟨n, by simpa using h1, h2⟩
theorem walk_zipT {K : PySem.W.Frag} {a b : Addr} {xs ys : List V} {n : Nat} (hn : n = min xs.length ys.length) : Walk (RZ.ItzT K a b) n (fun H => SqT K H a xs ∧ SqT K H b ys) (YPair (fun i => xs[i]?) (fun i => ys[i]?)) := by
  subst hn
  constructor
  · intro i H hi q
    have h1 : i < xs.length := by omega
    have h2 : i < ys.length := by omega
    exact ⟨xs, ys, xs[i], ys[i], q.1, q.2, by simp [h1], by simp [h2]⟩
  · exact fun H q => ⟨xs, ys, q.1, q.2, by omega⟩
  · intro i H v H' _ q y
    obtain ⟨U, x, z, h1, h2, h3, h4, h5⟩ := y
    exact ⟨U, x, z, h1, h2, h3, h4 xs q.1, h5 ys q.2⟩
section
variable {P : Program} {w : World} {K : PySem.W.Frag} {mg : Str → Option Value} {base : Heap}
end
end K05

namespace K05
open PySem PySem.Spec PyProof.Rows L2 Br
def rowD (p : PyData → Bool) : PyData → Bool
  | .tuple [a, b] => p a && withinD 0 100 b
  | _ => false
def fstS : PyData → Str
  | .tuple (.str z :: _) => z
  | _ => ""
def rankingD (p : PyData → Bool) : PyData → Bool
  | .tuple rows => rows.all (rowD p) && riseS (rows.map fstS)
  | _ => false
/-- which looks may be handed on -/
def LookAt {K : PySem.W.Frag} {mg : Str → Option Value} (T : Txt K mg) (f : Addr) (p : PyData → Bool) : Prop := (f = T.f_is_person ∧ p = personD) ∨ (f = T.f_is_wanted_word ∧ f ≠ T.f_is_person ∧ p = oneOfD wordsL)
def spRanking {K : PySem.W.Frag} {mg : Str → Option Value} (T : Txt K mg) : Sp := fun vs H Q _ => ∃ (v : V) (d : PyData) (f : Addr) (p : PyData → Bool), vs = [v, .ref f] ∧ Th K H v d ∧ LookAt T f p ∧ ∀ H', Same H H' → Q (.bl (rankingD p d)) H'
theorem look_str {K : PySem.W.Frag} {mg : Str → Option Value} {T : Txt K mg} {f : Addr} {p : PyData → Bool} (h : LookAt T f p) {d : PyData} (k : p d = true) : ∃ z, d = .str z := by
  rcases h with ⟨_, rfl⟩ | ⟨_, _, rfl⟩
  · cases d with
    | str z => exact ⟨z, rfl⟩
    | _ => cases k
  · cases d with
    | str z => exact ⟨z, rfl⟩
    | _ => cases k
def lookSp {K : PySem.W.Frag} {mg : Str → Option Value} (T : Txt K mg) (f : Addr) : Option Sp := if f = T.f_is_person then some (spLook K personD) else if f = T.f_is_wanted_word then some (spLook K (oneOfD wordsL)) else none
theorem look_sp {K : PySem.W.Frag} {mg : Str → Option Value} {T : Txt K mg} {f : Addr} {p : PyData → Bool} (h : LookAt T f p) : lookSp T f = some (spLook K p) := by
  unfold lookSp
  rcases h with ⟨rfl, rfl⟩ | ⟨rfl, hn, rfl⟩
  · rw [if_pos rfl]
  · rw [if_neg hn, if_pos rfl]
section
variable {P : Program} {w : World} {K : PySem.W.Frag} {mg : Str → Option Value} {base : Heap}
theorem held_look (T : Txt K mg) (Y : TxtX K mg w T) : ∀ f sp, lookSp T f = some sp → Held P w K mg base 3 f sp := by
  intro f sp h
  unfold lookSp at h
  split at h
  · rename_i e
    cases h
    subst e
    exact ⟨_, _, ok_is_person T, T.F_is_person.kp, T.b_is_person⟩
  · split at h
    · rename_i e
      cases h
      subst e
      exact ⟨_, _, (ok_is_wanted_word T Y).mono (by decide), T.F_is_wanted_word.kp, T.b_is_wanted_word⟩
    · cases h
/-- the items of a tuple, one by one -/
theorem tup_get {H : Hp} {us : List V} {ds : List PyData} {i : Nat} {u : V} : DpAll K H us ds → okAll ds = true → us[i]? = some u → ∃ d, ds[i]? = some d ∧ Th K H u d := by
  intro h ok e
  induction ds generalizing us i with
  | nil =>
    cases h
    simp at e
  | cons d ds ih =>
    obtain ⟨o1, o2⟩ := Bool.and_eq_true_iff.mp ok
    cases h with
    | cons h1 h2 =>
      cases i with
      | zero =>
        simp at e
        subst e
        exact ⟨d, rfl, .dp h1 o1⟩
      | succ i =>
        obtain ⟨d', e1, e2⟩ := ih h2 o2 (by simpa using e)
        exact ⟨d', by simpa using e1, e2⟩
theorem ok_is_ranking (T : Txt K mg) (Y : TxtX K mg w T) : FnOk P w K mg base CX0 4 T.f_is_ranking T.d_is_ranking ["rows", "is_ranked"] (spRanking T) := by
  have O_is_pair : FnOk P w K mg base CX0 1 _ _ _ _ := ok_is_pair T
  have O_is_rank : FnOk P w K mg base CX0 2 _ _ _ _ := ok_is_rank T
  have O_is_rising : FnOk P w K mg base CX0 1 _ _ _ _ := ok_is_rising_s T
  have HA_is_ranked := held_look (P := P) (base := base) T Y
  refine T.F_is_ranking.ok sc_is_ranking (fun vs H Q E h => ?_) (fun cdv A outer s H vs Q E hr h => ?_)
  · obtain ⟨v, d, f, p, rfl, _⟩ := h
    rfl
  obtain ⟨v, d, f, p, rfl, ht, hL, q⟩ := h
  refine ⟨_, (pss_cons (ps_if (pt_not (pt_val (pe_callB call_isi (by rfl) T.z_isinstance (by decide +kernel) (pa_cons (pv 0) (pa_cons (pe_bltn (v := .ty "tuple") (by rfl) T.z_tuple (by decide +kernel) rfl) pa_nil)))))
      (pss_one (ps_ret pe_bl)) pss_nil)
    (pss_cons (ps_if (pt_not (pt_val (pe_callB (cr_all rfl) (by rfl) T.z_all (by decide +kernel) (pa_cons (pe_lc (own := [("row", 2)]) (g := gName 2) (tt := tYes) rfl sc_is_ranking.nd (pi_tup (pv 0)) (blkOk_by (own := [("row", 2)]) (N := ["rows", "is_ranked", "row"]) (sc := defScope s_is_ranking) (by decide +kernel)) (fun _ _ _ _ _ => pg_name (i := 2) sc_is_ranking.nd rfl (Or.inl rfl)) (fun _ _ _ _ _ => pts_nil) (fun _ _ _ _ _ => (pe_and (pe_call O_is_pair (hr.mono (by decide)) (by rfl) T.m_is_pair T.F_is_pair.kp T.b_is_pair .nil pass0 (pa_cons (pv 2) pa_nil)) (pe_and (pe_callA (i := 1) HA_is_ranked (hr.mono (by decide)) (by rfl) (by first | exact Or.inl rfl | exact Or.inr (Or.inl rfl) | exact Or.inr (Or.inr rfl)) (pa_cons (pe_ix (ix_tupK K) (pv 2) pe_int (fun _ _ => rfl)) pa_nil)) (pe_one (pe_call O_is_rank (hr.mono (by decide)) (by rfl) T.m_is_rank T.F_is_rank.kp T.b_is_rank .nil pass0 (pa_cons (pe_ix (ix_tupK K) (pv 2) pe_int (fun _ _ => rfl)) pa_nil))))))) pa_nil))))
      (pss_one (ps_ret pe_bl)) pss_nil)
    (pss_one (ps_ret (pe_call O_is_rising (hr.mono (by decide)) (by rfl) T.m_is_rising T.F_is_rising.kp T.b_is_rising .nil pass0 (pa_cons (pe_lc (own := [("row", 2)]) (g := gName 2) (tt := tYes) rfl sc_is_ranking.nd (pi_tup (pv 0)) (blkOk_by (own := [("row", 2)]) (N := ["rows", "is_ranked", "row"]) (sc := defScope s_is_ranking) (by decide +kernel)) (fun _ _ _ _ _ => pg_name (i := 2) sc_is_ranking.nd rfl (Or.inl rfl)) (fun _ _ _ _ _ => pts_nil) (fun _ _ _ _ _ => (pe_ix (ix_tupK K) (pv 2) pe_int (fun _ _ => rfl)))) pa_nil)))))), ?_⟩
  refine ⟨v, rfl, v, .ty "tuple", _, _, _, rfl, .ty _, ht.ty, kit_tup d, _, rfl, ?_⟩
  rcases ht.tupq with ⟨a, us, ds, rfl, rfl, hs, ha, sm, sl⟩ | hn
  · refine iteF ?_
    have hul := dps_length ha
    have er : rankingD p (.tuple ds) = (ds.all (rowD p) && riseS (ds.map fstS)) := rfl
    rw [er] at q
    refine ⟨_, rfl, a, rfl, ⟨_, hs⟩, fun D nD => ?_⟩
    refine lc_it (walk_tup (xs := us)) (fun i H' => Same H H' ∧ H' D = some (.lst ((ds.take i).map fun d => V.bl (rowD p d)))) ⟨same_new nD, upd_same⟩ (fun _ _ _ hp => same_seqT hp.1 hs) (fun i x H1 H2 hi hp hy => ?_) (fun H1 hp => ?_)
    · obtain ⟨rfl, hx⟩ := hy
      obtain ⟨t1, hD⟩ := hp
      obtain ⟨d, hd, td⟩ := tup_get ha sm hx
      have fin : ∀ (b : Bool) (H3 : Hp), b = rowD p d → Same H2 H3 → ∃ acc, H3 D = some (.lst acc) ∧ acc.length < sizeLine ∧ Same H (upd H3 D (.lst (acc ++ [.bl b]))) ∧ (upd H3 D (.lst (acc ++ [.bl b]))) D = some (.lst ((ds.take (i + 1)).map fun d => V.bl (rowD p d))) := by
        intro b H3 hb s3
        refine ⟨_, s3 _ _ hD, ?_, fun c o e => ?_, ?_⟩
        · rw [List.length_map, List.length_take]
          exact small_len (by omega)
        · rw [upd_ne (ne_of_none e nD)]
          exact s3 c o (t1 c o e)
        · rw [upd_same, hb, take_map_succ (fun d => V.bl (rowD p d)) hd]
      refine ⟨rfl, ?_⟩
      refine ⟨_, rfl, x, d, rfl, td.same t1, fun H3 s3 => ⟨_, rfl, ?_⟩⟩
      refine ite2 (fun c => ?_) (fun c => ?_)
      · obtain ⟨ar, x0, x1, d0, d1, rfl, rfl, hsr, t0, t2⟩ := td.pairq c
        have S3 := t1.trans s3
        have e : rowD p (.tuple [d0, d1]) = (p d0 && withinD 0 100 d1) := rfl
        rw [e] at fin
        refine ⟨f, _, rfl, look_sp hL, _, rfl, ar, _, 0, x0, rfl, rfl, same_seqT S3 hsr, rfl, x0, d0, rfl, t0.same S3, fun H4 s4 => ⟨_, rfl, ?_⟩⟩
        refine ite2 (fun c2 => ?_) (fun c2 => ?_)
        · rw [c2] at fin
          refine ⟨_, rfl, ar, _, 1, x1, rfl, rfl, same_seqT (S3.trans s4) hsr, rfl, x1, d1, rfl, t2.same (S3.trans s4), fun H5 s5 => ?_⟩
          exact fin _ H5 rfl ((s3.trans s4).trans s5)
        · rw [Bool.eq_false_iff.mpr c2] at fin
          exact fin _ H4 rfl (s3.trans s4)
      · have e : rowD p d = false := by
          cases d with
          | tuple ds =>
            cases ds with
            | nil => rfl
            | cons x r =>
              cases r with
              | nil => rfl
              | cons y r =>
                cases r with
                | nil => exact absurd rfl c
                | cons z r => rfl
          | _ => rfl
        exact fin _ H3 e.symm s3
    · obtain ⟨t1, hD⟩ := hp
      rw [hul, List.take_length] at hD
      refine ⟨D, ds.map (rowD p), rfl, SqL.of (by rw [hD, List.map_map]; rfl), _, rfl, ?_⟩
      have ea : (ds.map (rowD p)).all id = ds.all (rowD p) := by rw [List.all_map]; rfl
      rw [ea]
      refine ite2 (fun c => ?_) (fun c => ?_)
      · have c' : ds.all (rowD p) = false := by
          cases h : ds.all (rowD p) with
          | false => rfl
          | true => rw [h] at c; cases c
        rw [c'] at q
        exact q H1 t1
      · have c' : ds.all (rowD p) = true := by
          cases h : ds.all (rowD p) with
          | true => rfl
          | false => rw [h] at c; exact absurd rfl c
        rw [c'] at q
        refine ⟨_, rfl, a, rfl, ⟨_, same_seqT t1 hs⟩, fun D2 nD2 => ?_⟩
        refine lc_it (walk_tup (xs := us)) (fun i H' => Same H1 H' ∧ H' D2 = some (.lst ((ds.take i).map fun d => V.str (fstS d)))) ⟨same_new nD2, upd_same⟩ (fun _ _ _ hp => same_seqT (t1.trans hp.1) hs) (fun i x H2 H3 hi hp hy => ?_) (fun H2 hp => ?_)
        · obtain ⟨rfl, hx⟩ := hy
          obtain ⟨t2, hD2⟩ := hp
          obtain ⟨d, hd, td⟩ := tup_get ha sm hx
          have rd := List.all_eq_true.mp c' d (List.mem_of_getElem? hd)
          have pd : pairD d = true := by
            cases d with
            | tuple ds =>
              cases ds with
              | nil => cases rd
              | cons x r =>
                cases r with
                | nil => cases rd
                | cons y r =>
                  cases r with
                  | nil => rfl
                  | cons z r => cases rd
            | _ => cases rd
          obtain ⟨ar, x0, x1, d0, d1, rfl, rfl, hsr, t0, t3⟩ := td.pairq pd
          have p0 : p d0 = true := (Bool.and_eq_true_iff.mp rd).1
          obtain ⟨z, rfl⟩ := look_str hL p0
          have ex0 : x0 = .str z := by
            rcases t0.strq with ⟨z', h1, h2, _⟩ | h
            · cases h2
              exact h1
            · cases h
          subst ex0
          refine ⟨rfl, ?_⟩
          refine ⟨_, rfl, ar, _, 0, .str z, rfl, rfl, same_seqT (t1.trans t2) hsr, rfl, _, hD2, ?_, fun b o e => ?_, ?_⟩
          · rw [List.length_map, List.length_take]
            exact small_len (by omega)
          · rw [upd_ne (ne_of_none e nD2)]
            exact t2 b o e
          · rw [upd_same, ← take_map_succ (fun d => V.str (fstS d)) hd]
            rfl
        · obtain ⟨t2, hD2⟩ := hp
          rw [hul, List.take_length] at hD2
          refine ⟨D2, ds.map fstS, rfl, SqL.of (by rw [hD2, List.map_map]; rfl), by rw [List.length_map]; exact sl, fun H4 s4 => ?_⟩
          exact q H4 ((t1.trans t2).trans s4)
  · rw [hn]
    have e : rankingD p d = false := by
      cases d with
      | tuple _ => cases hn
      | _ => rfl
    have q' := q H (Same.refl H)
    rw [e] at q'
    exact q'
end
end K05

namespace K05
open PySem PySem.Spec PyProof.Rows L2 Br
def lenT : PyData → Nat
  | .tuple ds => ds.length
  | _ => 0
def ranksD : PyData → Bool
  | .tuple [a, b] => rankingD personD a && (decide (lenT a ≤ 20) && rankingD (oneOfD wordsL) b)
  | _ => false
def bodyD (k : Str) (d : PyData) : Bool :=
  if k = "begin" then beginD d else if k = "seat" then oneOfD seatsL d else if k = "ranks" then ranksD d else if k = "door" then oneOfD doorsL d else if k = "say" then sayD d else if k = "strike" then nameD d else rulesD d
def spBody (K : PySem.W.Frag) : Sp := fun vs H Q _ => ∃ (k : Str) (v : V) (d : PyData), vs = [.str k, v] ∧ k ∈ kindsL ∧ Th K H v d ∧ ∀ H', Same H H' → Q (.bl (bodyD k d)) H'
section
variable {P : Program} {w : World} {K : PySem.W.Frag} {mg : Str → Option Value} {base : Heap}
theorem fun_name {x y q q' : Str} {st st' : Stmt} {f : Addr} {fd fd' : FuncData} (F : Fun K x q st f fd) (G : Fun K y q' st' f fd') : x = y := by
  obtain ⟨oc, od, kV, dc, pm, an, cdv, ct, osl, rfl, lk, _⟩ := F.ex
  obtain ⟨oc', od', kV', dc', pm', an', cdv', ct', osl', rfl, lk', _⟩ := G.ex
  have e := lk.symm.trans lk'
  simp only [Option.some.injEq, Obj.mk.injEq, Data.func.injEq] at e
  exact congrArg FuncData.name e.2.2.1
theorem ranking_tup {p : PyData → Bool} {d : PyData} (h : rankingD p d = true) : isTupD d = true := by
  cases d with
  | tuple ds => rfl
  | _ => cases h
theorem ok_is_ranks_body (T : Txt K mg) (Y : TxtX K mg w T) : FnOk P w K mg base CX0 5 T.f_is_ranks_body T.d_is_ranks_body ["body"] (spLook K ranksD) := by
  have O_is_pair : FnOk P w K mg base CX0 1 _ _ _ _ := ok_is_pair T
  have O_is_ranking : FnOk P w K mg base CX0 4 _ _ _ _ := ok_is_ranking T Y
  have hne : T.f_is_wanted_word ≠ T.f_is_person := fun e => by
    have F := T.F_is_wanted_word
    rw [e] at F
    exact absurd (fun_name F T.F_is_person) (by decide)
  refine T.F_is_ranks_body.ok sc_is_ranks_body (fun vs H Q E h => ?_) (fun cdv A outer s H vs Q E hr h => ?_)
  · obtain ⟨v, d, rfl, _⟩ := h
    rfl
  obtain ⟨v, d, rfl, ht, q⟩ := h
  refine ⟨_, (pss_cons (ps_if (PW.pt (pw_or (pt_not (pt_val (pe_call O_is_pair (hr.mono (by decide)) (by rfl) T.m_is_pair T.F_is_pair.kp T.b_is_pair .nil pass0 (pa_cons (pv 0) pa_nil)))) (pw_or1 (pt_not (pt_val (pe_call O_is_ranking (hr.mono (by decide)) (by rfl) T.m_is_ranking T.F_is_ranking.kp T.b_is_ranking .nil pass0 (pa_cons (pe_ix (ix_tupK K) (pv 0) pe_int (fun _ _ => rfl)) (pa_cons (pe_glob (v := .ref T.f_is_person) (by rfl) T.m_is_person rfl) pa_nil))))))))
      (pss_one (ps_ret pe_bl)) pss_nil)
    (pss_one (ps_ret (pe_and (pe_cmpR op_le (pe_callB call_len_seq (by rfl) T.z_len PySem.boot_len (pa_cons (pe_ix (ix_tupK K) (pv 0) pe_int (fun _ _ => rfl)) pa_nil)) (pe_glob (v := .int 20) (by rfl) T.c_MOST_PEOPLE ⟨_, rfl⟩) (nomark _)) (pe_one (pe_call O_is_ranking (hr.mono (by decide)) (by rfl) T.m_is_ranking T.F_is_ranking.kp T.b_is_ranking .nil pass0 (pa_cons (pe_ix (ix_tupK K) (pv 0) pe_int (fun _ _ => rfl)) (pa_cons (pe_glob (v := .ref T.f_is_wanted_word) (by rfl) T.m_is_wanted_word rfl) pa_nil)))))))), ?_⟩
  refine ⟨v, rfl, v, d, rfl, ht, fun H1 s1 => ⟨_, rfl, ?_⟩⟩
  refine ite2 (fun c => ?_) (fun c => ?_)
  · have c' : pairD d = false := by
      cases h : pairD d with
      | false => rfl
      | true => rw [h] at c; cases c
    have e : ranksD d = false := by
      cases d with
      | tuple ds =>
        cases ds with
        | nil => rfl
        | cons x r =>
          cases r with
          | nil => rfl
          | cons y r =>
            cases r with
            | nil => cases c'
            | cons z r => rfl
      | _ => rfl
    rw [e] at q
    exact q H1 s1
  · have c' : pairD d = true := by
      cases h : pairD d with
      | true => rfl
      | false => rw [h] at c; exact absurd rfl c
    obtain ⟨a, x0, x1, d0, d1, rfl, rfl, hs, t0, t1⟩ := ht.pairq c'
    have er : ranksD (.tuple [d0, d1]) = (rankingD personD d0 && (decide (lenT d0 ≤ 20) && rankingD (oneOfD wordsL) d1)) := rfl
    rw [er] at q
    refine ⟨_, rfl, a, _, 0, x0, rfl, rfl, same_seqT s1 hs, rfl, x0, d0, T.f_is_person, personD, rfl, t0.same s1, .inl ⟨rfl, rfl⟩, fun H2 s2 => ⟨_, rfl, ?_⟩⟩
    have S2 := s1.trans s2
    cases hr0 : rankingD personD d0 with
    | false =>
      rw [hr0] at q
      exact q H2 S2
    | true =>
      rw [hr0] at q
      refine iteF ?_
      rcases t0.tupq with ⟨b, us, ds, rfl, rfl, hb, ha, sm, sl⟩ | hn
      · refine ⟨_, rfl, a, _, 0, .ref b, rfl, rfl, same_seqT S2 hs, rfl, b, us, rfl, .inr (same_seqT S2 hb), _, _, rfl, rfl, _, rfl, ?_⟩
        have el : decide ((us.length : Int) ≤ 20) = decide (lenT (.tuple ds) ≤ 20) := by
          rw [dps_length ha]
          exact decide_eq_decide.mpr (by show (ds.length : Int) ≤ 20 ↔ ds.length ≤ 20; omega)
        rw [← el] at q
        refine ite2 (fun c2 => ?_) (fun c2 => ?_)
        · rw [c2] at q
          refine ⟨_, rfl, a, _, 1, x1, rfl, rfl, same_seqT S2 hs, rfl, x1, d1, T.f_is_wanted_word, oneOfD wordsL, rfl, t1.same S2, .inr ⟨rfl, hne, rfl⟩, fun H3 s3 => ?_⟩
          exact q H3 (S2.trans s3)
        · rw [Bool.eq_false_iff.mpr c2] at q
          exact q H2 S2
      · rw [ranking_tup hr0] at hn
        cases hn
theorem held_one {f : Addr} {sp : Sp} {k : Nat} (h : Held P w K mg base k f sp) : ∀ f' sp', (if f' = f then some sp else none) = some sp' → Held P w K mg base k f' sp' := by
  intro f' sp' e
  split at e
  · rename_i z
    cases e
    rw [z]
    exact h
  · cases e
theorem fits (T : Txt K mg) (Y : TxtX K mg w T) {k : Str} (hk : k ∈ kindsL) : ∃ f p, KDct K w Y.a_BODIES k (.ref f) ∧ Held P w K mg base 5 f (spLook K p) ∧ ∀ d, p d = bodyD k d := by
  unfold kindsL at hk
  simp only [List.mem_cons, List.not_mem_nil, or_false] at hk
  rcases hk with rfl | rfl | rfl | rfl | rfl | rfl | rfl
  · exact ⟨_, beginD, Y.b_begin, ⟨_, _, (ok_is_begin_body T Y).mono (by decide), T.F_is_begin_body.kp, T.b_is_begin_body⟩, fun d => rfl⟩
  · exact ⟨_, oneOfD seatsL, Y.b_seat, ⟨_, _, (ok_is_seat_body T Y).mono (by decide), T.F_is_seat_body.kp, T.b_is_seat_body⟩, fun d => rfl⟩
  · exact ⟨_, ranksD, Y.b_ranks, ⟨_, _, (ok_is_ranks_body T Y).mono (by decide), T.F_is_ranks_body.kp, T.b_is_ranks_body⟩, fun d => rfl⟩
  · exact ⟨_, oneOfD doorsL, Y.b_door, ⟨_, _, (ok_is_door_body T Y).mono (by decide), T.F_is_door_body.kp, T.b_is_door_body⟩, fun d => rfl⟩
  · exact ⟨_, sayD, Y.b_say, ⟨_, _, (ok_is_say_body T).mono (by decide), T.F_is_say_body.kp, T.b_is_say_body⟩, fun d => rfl⟩
  · exact ⟨_, nameD, Y.b_strike, ⟨_, _, (ok_is_strike_body T).mono (by decide), T.F_is_strike_body.kp, T.b_is_strike_body⟩, fun d => rfl⟩
  · exact ⟨_, rulesD, Y.b_move, ⟨_, _, (ok_is_rules T Y).mono (by decide), T.F_is_rules.kp, T.b_is_rules⟩, fun d => rfl⟩
theorem ok_is_body (T : Txt K mg) (Y : TxtX K mg w T) : FnOk P w K mg base CX0 6 T.f_is_body T.d_is_body ["kind", "body"] (spBody K) := by
  refine T.F_is_body.ok sc_is_body (fun vs H Q E h => ?_) (fun cdv A outer s H vs Q E hr h => ?_)
  · obtain ⟨k, v, d, rfl, _⟩ := h
    rfl
  obtain ⟨k, v, d, rfl, hk, ht, q⟩ := h
  obtain ⟨f, p, kd, hh, hp⟩ := fits (P := P) (base := base) T Y hk
  have HA_is_fit := held_one hh
  refine ⟨_, (pss_cons (ps_set (i := 2) sc_is_body.nd rfl (.inl rfl) (pe_ix ix_kdict (pe_glob (v := .ref Y.a_BODIES) (by rfl) Y.m_BODIES rfl) (pv 0) (fun _ _ => rfl)))
    (pss_one (ps_ret (pe_callA (i := 2) HA_is_fit (hr.mono (by decide)) (by rfl) (by first | exact Or.inl rfl | exact Or.inr (Or.inl rfl) | exact Or.inr (Or.inr rfl)) (pa_cons (pv 1) pa_nil))))), ?_⟩
  refine ⟨_, rfl, Y.a_BODIES, k, .ref f, rfl, rfl, kd, ?_⟩
  refine ⟨f, _, rfl, if_pos rfl, v, rfl, v, d, rfl, ht, fun H1 s1 => ?_⟩
  rw [hp d]
  exact q H1 s1
end
end K05

namespace K05
open PySem PySem.Spec PyProof.Rows L2 Br
def nmOf : PyData → Str × Int
  | .tuple [.str z, .int i] => (z, i)
  | _ => ("", 0)
def namesD (kb : Bool) (own : PyData) : PyData → Bool
  | .tuple ds => decide (ds.length ≤ 6) && (decide (kb = decide (ds.length = 0)) && (ds.all (fun x => nameD x && !PyData.eqv x own) && riseN (ds.map nmOf)))
  | _ => false
def spNames (K : PySem.W.Frag) : Sp := fun vs H Q _ => ∃ (k : Str) (vo v : V) (o d : PyData), vs = [.str k, vo, v] ∧ Th K H vo o ∧ nameD o = true ∧ Th K H v d ∧ ∀ H', Same H H' → Q (.bl (namesD (decide (V.str k = V.str "begin")) o d)) H'
section
variable {P : Program} {w : World} {K : PySem.W.Frag} {mg : Str → Option Value} {base : Heap}
theorem name_form {d : PyData} (h : nameD d = true) : ∃ z i, d = .tuple [.str z, .int i] := by
  cases d with
  | tuple ds =>
    cases ds with
    | nil => cases h
    | cons x r =>
      cases r with
      | nil => cases h
      | cons y r =>
        cases r with
        | nil =>
          obtain ⟨h1, h2⟩ := Bool.and_eq_true_iff.mp (show (wordD x && withinD 0 99999 y) = true from h)
          cases x with
          | str z =>
            cases y with
            | int i => exact ⟨z, i, rfl⟩
            | _ => cases h2
          | _ => cases h1
        | cons z r => cases h
  | _ => cases h
/-- a name that is a thing: where it stands, and that it may be compared -/
theorem Th.name {H : Hp} {v : V} {d : PyData} (t : Th K H v d) (h : nameD d = true) : NameAt K H v (nmOf d) ∧ Dp K H v d ∧ SeqAt.shaped d = true := by
  obtain ⟨z, i, rfl⟩ := name_form h
  obtain ⟨a, x0, x1, d0, d1, rfl, e, hs, t0, t1⟩ := t.pairq rfl
  cases e
  rcases t0.strq with ⟨z', rfl, e1, hz, ha⟩ | hn
  · cases e1
    rcases t1.intq with ⟨i', rfl, e2⟩ | hn
    · cases e2
      refine ⟨⟨a, rfl, hs⟩, .tup hs (.cons (.str z) (.cons (.int i) .nil)), ?_⟩
      show ((PyData.strOk z && (true && true)) && decide (max 0 (max 0 0) + 1 ≤ 64)) = true
      have e : PyData.strOk z = true := by
        unfold PyData.strOk
        rw [← Array.all_toList]
        exact List.all_eq_true.mpr fun c hc => decide_eq_true (Nat.lt_trans (ha c hc) (by decide))
      rw [e]
      rfl
    · cases hn
  · cases hn
def riseP : Str × Int → List (Str × Int) → Bool
  | _, [] => true
  | p, n :: ns => ltN p n && riseP n ns
theorem riseN_cons : ∀ (n : Str × Int) (ns : List (Str × Int)), riseN (n :: ns) = riseP n ns
  | _, [] => rfl
  | n, m :: r => by
    show (ltN n m && riseN (m :: r)) = (ltN n m && riseP m r)
    rw [riseN_cons m r]
def goodFrom (o : PyData) : Str × Int → List PyData → Bool
  | _, [] => true
  | p, d :: ds => nameD d && !PyData.eqv d o && ltN p (nmOf d) && goodFrom o (nmOf d) ds
theorem goodFrom_eq (o : PyData) : ∀ (ds : List PyData) (p : Str × Int), goodFrom o p ds = (ds.all (fun x => nameD x && !PyData.eqv x o) && riseP p (ds.map nmOf))
  | [], _ => rfl
  | d :: ds, p => by
    show (nameD d && !PyData.eqv d o && ltN p (nmOf d) && goodFrom o (nmOf d) ds) = ((nameD d && !PyData.eqv d o && ds.all (fun x => nameD x && !PyData.eqv x o)) && (ltN p (nmOf d) && riseP (nmOf d) (ds.map nmOf)))
    rw [goodFrom_eq o ds (nmOf d)]
    generalize (nameD d && !PyData.eqv d o) = a
    generalize (ds.all fun x => nameD x && !PyData.eqv x o) = b
    generalize ltN p (nmOf d) = c
    generalize riseP (nmOf d) (ds.map nmOf) = e
    cases a <;> cases b <;> cases c <;> cases e <;> rfl
def least : Str × Int := ("", 0)
theorem least_lt {d : PyData} (h : nameD d = true) : ltN least (nmOf d) = true := by
  obtain ⟨z, i, rfl⟩ := name_form h
  have hz : wordS z = true := (Bool.and_eq_true_iff.mp (show (wordD (.str z) && withinD 0 99999 (.int i)) = true from h)).1
  have n0 : z.length ≠ 0 := fun e => by
    have := (Bool.and_eq_true_iff.mp (Bool.and_eq_true_iff.mp hz).1).1
    rw [decide_eq_true e] at this
    cases this
  have ne : z ≠ "" := fun e => n0 (by rw [e]; rfl)
  show (if (Sum.inr "" : Key) = .inr z then lexK [.inl 0] [.inl i] else decide (("" : Str).cps.toList < z.cps.toList)) = true
  rw [if_neg (fun e => ne (Sum.inr.inj e).symm)]
  refine decide_eq_true ?_
  have hl : z.cps.toList.length = z.length := Array.length_toList ..
  cases e : z.cps.toList with
  | nil => rw [e] at hl; exact absurd hl.symm n0
  | cons c r => exact List.Lex.nil
theorem good_names (o : PyData) (ds : List PyData) : goodFrom o least ds = (ds.all (fun x => nameD x && !PyData.eqv x o) && riseN (ds.map nmOf)) := by
  rw [goodFrom_eq]
  cases ds with
  | nil => rfl
  | cons d ds =>
    rw [List.map_cons, riseN_cons]
    cases h : nameD d with
    | false => rw [List.all_cons, h]; rfl
    | true =>
      show (_ && (ltN least (nmOf d) && riseP (nmOf d) (ds.map nmOf))) = _
      rw [least_lt h, Bool.true_and]
theorem ok_is_names (T : Txt K mg) (Y : TxtX K mg w T) : FnOk P w K mg base CX0 4 T.f_is_names T.d_is_names ["kind", "own", "names"] (spNames K) := by
  have O_is_name : FnOk P w K mg base CX0 3 _ _ _ _ := ok_is_name T
  refine T.F_is_names.ok sc_is_names (fun vs H Q E h => ?_) (fun cdv A outer s H vs Q E hr h => ?_)
  · obtain ⟨k, vo, v, o, d, rfl, _⟩ := h
    rfl
  obtain ⟨k, vo, v, o, d, rfl, to, ho, ht, q⟩ := h
  refine ⟨_, (pss_cons (ps_if (PW.pt (pw_or (pt_not (pt_val (pe_callB call_isi (by rfl) T.z_isinstance (by decide +kernel) (pa_cons (pv 2) (pa_cons (pe_bltn (v := .ty "tuple") (by rfl) T.z_tuple (by decide +kernel) rfl) pa_nil))))) (pw_or1 (pt_cmpR op_gt (pe_callB call_len_seq (by rfl) T.z_len PySem.boot_len (pa_cons (pv 2) pa_nil)) (pe_glob (v := .int 6) (by rfl) T.c_MOST_NAMES ⟨_, rfl⟩) (nomark _)))))
      (pss_one (ps_ret pe_bl)) pss_nil)
    (pss_cons (ps_if (pt_cmpR op_ne (pe_cmpR op_eq (pv 0) pe_str (nomark _)) (pe_cmpR op_eq (pe_callB call_len_seq (by rfl) T.z_len PySem.boot_len (pa_cons (pv 2) pa_nil)) pe_int (nomark _)) (nomark _))
      (pss_one (ps_ret pe_bl)) pss_nil)
    (pss_cons (ps_set (i := 3) sc_is_names.nd rfl (.inl rfl) (pe_glob (v := .ref Y.a_LEAST) (by rfl) Y.m_LEAST rfl))
    (pss_cons (ps_for PassesOwn.never rfl (pi_tup (pv 2)) (pg_name (i := 4) sc_is_names.nd rfl (.inl rfl))
      (pss_cons (ps_if (PW.pt (pw_or (pt_not (pt_val (pe_call O_is_name (hr.mono (by decide)) (by rfl) T.m_is_name T.F_is_name.kp T.b_is_name .nil pass0 (pa_cons (pv 4) pa_nil)))) (pw_or (pt_cmpR (op_eqDK K hr.units) (pv 4) (pv 1) (nomark _)) (pw_or1 (pt_cmpR (Br.op_leN K hr.units0) (pv 4) (pv 3) (nomark _))))))
      (pss_one (ps_ret pe_bl)) pss_nil)
    (pss_one (ps_set (i := 3) sc_is_names.nd rfl (.inl rfl) (pv 4)))))
    (pss_one (ps_ret pe_bl)))))), ?_⟩
  refine ⟨v, rfl, v, .ty "tuple", _, _, _, rfl, .ty _, ht.ty, kit_tup d, _, rfl, ?_⟩
  rcases ht.tupq with ⟨a, us, ds, rfl, rfl, hs, ha, sm, sl⟩ | hn
  · have hul := dps_length ha
    generalize hkb : decide (V.str k = V.str "begin") = kb at q
    have er : namesD kb o (.tuple ds) = (decide (ds.length ≤ 6) && (decide (kb = decide (ds.length = 0)) && (ds.all (fun x => nameD x && !PyData.eqv x o) && riseN (ds.map nmOf)))) := rfl
    rw [er, ← good_names] at q
    refine iteF ⟨_, rfl, a, us, rfl, .inr hs, _, _, rfl, rfl, _, rfl, ?_⟩
    refine ite2 (fun c => ?_) (fun c => ?_)
    · have n : ¬ ds.length ≤ 6 := by
        have := of_decide_eq_true c
        omega
      rw [decide_eq_false n] at q
      exact q H (Same.refl H)
    · have n : ds.length ≤ 6 := by
        refine Classical.byContradiction fun z => c (decide_eq_true ?_)
        omega
      rw [decide_eq_true n] at q
      refine ⟨_, rfl, rfl, _, rfl, a, us, rfl, .inr hs, rfl, rfl, _, rfl, ?_⟩
      have e2 : decide (V.int (us.length : Nat) = V.int 0) = decide (ds.length = 0) := decide_eq_decide.mpr ⟨fun z => by have := V.int.inj z; omega, fun z => by rw [hul, z]; rfl⟩
      rw [e2, hkb]
      have e3 : (!decide (V.bl kb = V.bl (decide (ds.length = 0)))) = !decide (kb = decide (ds.length = 0)) := by
        congr 1
        exact decide_eq_decide.mpr ⟨fun z => V.bl.inj z, fun z => by rw [z]⟩
      rw [e3]
      refine ite2 (fun c2 => ?_) (fun c2 => ?_)
      · have c2' : decide (kb = decide (ds.length = 0)) = false := by
          cases h : decide (kb = decide (ds.length = 0)) with
          | false => rfl
          | true => rw [h] at c2; cases c2
        rw [c2'] at q
        exact q H (Same.refl H)
      · have c2' : decide (kb = decide (ds.length = 0)) = true := by
          cases h : decide (kb = decide (ds.length = 0)) with
          | true => rfl
          | false => rw [h] at c2; exact absurd rfl c2
        rw [c2'] at q
        refine ⟨_, rfl, a, rfl, ⟨_, hs⟩, ?_⟩
        refine for_tup (xs := us) (fun i σ H' => ∃ (vp : V) (y : Option V) (p : Str × Int), σ = [some (.str k), some vo, some (.ref a), some vp, y] ∧ Same H H' ∧ NameAt K H' vp p ∧ goodFrom o least ds = goodFrom o p (ds.drop i))
          ⟨_, _, least, rfl, Same.refl _, ⟨_, rfl, Y.q_LEAST H⟩, rfl⟩ (fun i σ H1 _ hp => ?_) (fun i x σ H1 hx hp => ?_) (fun σ H1 hp => ?_)
        · obtain ⟨_, _, _, _, t1, _⟩ := hp
          exact same_seqT t1 hs
        · obtain ⟨vp, y, p, rfl, t1, hn, hg⟩ := hp
          obtain ⟨d, hd, td⟩ := tup_get ha sm hx
          have hdr : ds.drop i = d :: ds.drop (i + 1) := by
            rw [List.drop_eq_getElem_cons (List.getElem?_eq_some_iff.mp hd).1, (List.getElem?_eq_some_iff.mp hd).2]
          have hg' : goodFrom o least ds = (nameD d && !PyData.eqv d o && ltN p (nmOf d) && goodFrom o (nmOf d) (ds.drop (i + 1))) := by rw [hg, hdr]; rfl
          refine ⟨_, rfl, x, d, rfl, td.same t1, fun H3 s3 => ⟨_, rfl, ?_⟩⟩
          have S3 := t1.trans s3
          cases c3 : nameD d with
          | false =>
            rw [hg', c3] at q
            exact q H3 S3
          | true =>
          obtain ⟨nm1, dp1, sh1⟩ := (td.same S3).name c3
          obtain ⟨_, dp2, sh2⟩ := (to.same S3).name ho
          refine iteF ⟨_, rfl, _, rfl, d, o, dp1, dp2, sh1, sh2, _, rfl, ?_⟩
          cases c4 : PyData.eqv d o with
          | true =>
            rw [hg', c3, c4] at q
            exact q H3 S3
          | false =>
          obtain ⟨b1, rfl, hb1⟩ := nm1
          obtain ⟨b2, rfl, hb2⟩ := hn
          refine iteF ⟨_, rfl, _, rfl, b1, b2, nmOf d, p, rfl, rfl, hb1, same_seqT s3 hb2, _, rfl, ?_⟩
          cases c5 : ltN p (nmOf d) with
          | false =>
            rw [hg', c3, c4, c5] at q
            exact q H3 S3
          | true =>
            refine iteF ⟨_, rfl, ?_⟩
            refine ⟨_, _, nmOf d, rfl, S3, ⟨b1, rfl, hb1⟩, ?_⟩
            rw [hg', c3, c4, c5]
            rfl
        · obtain ⟨vp, y, p, rfl, t1, hn, hg⟩ := hp
          rw [hul, List.drop_length] at hg
          rw [hg] at q
          exact q H1 t1
  · rw [hn]
    have e : ∀ kb, namesD kb o d = false := fun kb => by
      cases d with
      | tuple _ => cases hn
      | _ => rfl
    have q' := q H (Same.refl H)
    rw [e] at q'
    exact q'
end
end K05

namespace K05
open PySem PySem.Spec PyProof.Rows L2 Br
def kS : PyData → Str
  | .str z => z
  | _ => ""
def hsP : PyData → Str
  | .str z => (Txt.split z at1).getD 1 ""
  | _ => ""
/-- the first part that isn't as told -/
def wrongD (d0 d1 d2 d3 d4 d5 d6 : PyData) : Option Str :=
  if nameD d0 = false then some "name" else if oneOfD kindsL d1 = false then some "kind" else if personD d2 = false then some "who" else if aboutD (kS d1) d3 = false then some "about" else
  if bodyD (kS d1) d4 = false then some "body" else if namesD (decide (V.str (kS d1) = V.str "begin")) d0 d5 = false then some "after" else if namesD (decide (V.str (kS d1) = V.str "begin")) d0 d6 = false then some "leave" else
  if decide (V.str (hsP d2) = V.str (nmOf d0).1) = false then some "house" else none
def partV : Option Str → V
  | none => .non
  | some z => .str z
def spWrong (K : PySem.W.Frag) : Sp := fun vs H Q _ => ∃ (a : Addr) (v0 v1 v2 v3 v4 v5 v6 : V) (d0 d1 d2 d3 d4 d5 d6 : PyData), vs = [.ref a] ∧ SqT K H a [v0, v1, v2, v3, v4, v5, v6] ∧ Th K H v0 d0 ∧ Th K H v1 d1 ∧ Th K H v2 d2 ∧ Th K H v3 d3 ∧ Th K H v4 d4 ∧ Th K H v5 d5 ∧ Th K H v6 d6 ∧
  ∀ H', Same H H' → Q (partV (wrongD d0 d1 d2 d3 d4 d5 d6)) H'
def amiss : PyData → Option V
  | .tuple [d0, d1, d2, d3, d4, d5, d6] => (wrongD d0 d1 d2 d3 d4 d5 d6).map V.str
  | _ => some .non
section
variable {P : Program} {w : World} {K : PySem.W.Frag} {mg : Str → Option Value} {base : Heap}
theorem ok_wrong_part (T : Txt K mg) (Y : TxtX K mg w T) : FnOk P w K mg base CX0 7 T.f_wrong_part T.d_wrong_part ["deed"] (spWrong K) := by
  have O_is_name : FnOk P w K mg base CX0 3 _ _ _ _ := ok_is_name T
  have O_is_one_of : FnOk P w K mg base CX0 1 _ _ _ _ := ok_is_one_of T
  have O_is_person : FnOk P w K mg base CX0 3 _ _ _ _ := ok_is_person T
  have O_is_about : FnOk P w K mg base CX0 4 _ _ _ _ := ok_is_about T
  have O_is_body : FnOk P w K mg base CX0 6 _ _ _ _ := ok_is_body T Y
  have O_is_names : FnOk P w K mg base CX0 4 _ _ _ _ := ok_is_names T Y
  have O_house_of : FnOk P w K mg base CX0 1 _ _ _ _ := ok_house_of T
  refine T.F_wrong_part.ok sc_wrong_part (fun vs H Q E h => ?_) (fun cdv A outer s H vs Q E hr h => ?_)
  · obtain ⟨a, v0, v1, v2, v3, v4, v5, v6, d0, d1, d2, d3, d4, d5, d6, rfl, _⟩ := h
    rfl
  obtain ⟨a, v0, v1, v2, v3, v4, v5, v6, d0, d1, d2, d3, d4, d5, d6, rfl, hs, t0, t1, t2, t3, t4, t5, t6, q⟩ := h
  refine ⟨_, (pss_cons (ps_asg (pv 0) (pg_tup rfl (pgs_cons (pg_name (i := 1) sc_wrong_part.nd rfl (.inl rfl)) (pgs_cons (pg_name (i := 2) sc_wrong_part.nd rfl (.inl rfl)) (pgs_cons (pg_name (i := 3) sc_wrong_part.nd rfl (.inl rfl)) (pgs_cons (pg_name (i := 4) sc_wrong_part.nd rfl (.inl rfl)) (pgs_cons (pg_name (i := 5) sc_wrong_part.nd rfl (.inl rfl)) (pgs_cons (pg_name (i := 6) sc_wrong_part.nd rfl (.inl rfl)) (pgs_cons (pg_name (i := 7) sc_wrong_part.nd rfl (.inl rfl)) pgs_nil)))))))))
    (pss_cons (ps_if (pt_not (pt_val (pe_call O_is_name (hr.mono (by decide)) (by rfl) T.m_is_name T.F_is_name.kp T.b_is_name .nil pass0 (pa_cons (pv 1) pa_nil))))
      (pss_one (ps_ret pe_str)) pss_nil)
    (pss_cons (ps_if (pt_not (pt_val (pe_call O_is_one_of (hr.mono (by decide)) (by rfl) T.m_is_one_of T.F_is_one_of.kp T.b_is_one_of .nil pass0 (pa_cons (pv 2) (pa_cons (pe_glob (v := .ref Y.a_KINDS) (by rfl) Y.m_KINDS rfl) pa_nil)))))
      (pss_one (ps_ret pe_str)) pss_nil)
    (pss_cons (ps_if (pt_not (pt_val (pe_call O_is_person (hr.mono (by decide)) (by rfl) T.m_is_person T.F_is_person.kp T.b_is_person .nil pass0 (pa_cons (pv 3) pa_nil))))
      (pss_one (ps_ret pe_str)) pss_nil)
    (pss_cons (ps_if (pt_not (pt_val (pe_call O_is_about (hr.mono (by decide)) (by rfl) T.m_is_about T.F_is_about.kp T.b_is_about .nil pass0 (pa_cons (pv 2) (pa_cons (pv 4) pa_nil)))))
      (pss_one (ps_ret pe_str)) pss_nil)
    (pss_cons (ps_if (pt_not (pt_val (pe_call O_is_body (hr.mono (by decide)) (by rfl) T.m_is_body T.F_is_body.kp T.b_is_body .nil pass0 (pa_cons (pv 2) (pa_cons (pv 5) pa_nil)))))
      (pss_one (ps_ret pe_str)) pss_nil)
    (pss_cons (ps_if (pt_not (pt_val (pe_call O_is_names (hr.mono (by decide)) (by rfl) T.m_is_names T.F_is_names.kp T.b_is_names .nil pass0 (pa_cons (pv 2) (pa_cons (pv 1) (pa_cons (pv 6) pa_nil))))))
      (pss_one (ps_ret pe_str)) pss_nil)
    (pss_cons (ps_if (pt_not (pt_val (pe_call O_is_names (hr.mono (by decide)) (by rfl) T.m_is_names T.F_is_names.kp T.b_is_names .nil pass0 (pa_cons (pv 2) (pa_cons (pv 1) (pa_cons (pv 7) pa_nil))))))
      (pss_one (ps_ret pe_str)) pss_nil)
    (pss_cons (ps_if (pt_cmpR op_ne (pe_call O_house_of (hr.mono (by decide)) (by rfl) T.m_house_of T.F_house_of.kp T.b_house_of .nil pass0 (pa_cons (pv 3) pa_nil)) (pe_ix (ix_tupK K) (pv 1) pe_int (fun _ _ => rfl)) (nomark _))
      (pss_one (ps_ret pe_str)) pss_nil)
    (pss_one (ps_ret pe_non))))))))))), ?_⟩
  refine ⟨_, rfl, a, _, rfl, hs, rfl, _, _, rfl, _, _, rfl, _, _, rfl, _, _, rfl, _, _, rfl, _, _, rfl, _, _, rfl, rfl, ?_⟩
  unfold wrongD at q
  refine ⟨_, rfl, v0, d0, rfl, t0, fun H1 s1 => ⟨_, rfl, ?_⟩⟩
  cases c0 : nameD d0 with
  | false =>
    rw [if_pos c0] at q
    exact q H1 s1
  | true =>
  rw [if_neg (by rw [c0]; exact nofun)] at q
  refine iteF ⟨_, rfl, v1, d1, Y.a_KINDS, kindsL, rfl, t1.same s1, Y.q_KINDS H1, fun H2 s2' => ⟨_, rfl, ?_⟩⟩
  have s2 := s1.trans s2'
  cases c1 : oneOfD kindsL d1 with
  | false =>
    rw [if_pos c1] at q
    exact q H2 s2
  | true =>
  rw [if_neg (by rw [c1]; exact nofun)] at q
  obtain ⟨k, rfl, rfl, hk⟩ : ∃ k, v1 = .str k ∧ d1 = .str k ∧ k ∈ kindsL := by
    rcases t1.strq with ⟨k, e1, e2, _⟩ | hn
    · subst e2
      exact ⟨k, e1, rfl, of_decide_eq_true c1⟩
    · cases d1 with
      | str k => cases hn
      | _ => cases c1
  refine iteF ⟨_, rfl, v2, d2, rfl, t2.same s2, fun H3 s3' => ⟨_, rfl, ?_⟩⟩
  have s3 := s2.trans s3'
  cases c2 : personD d2 with
  | false =>
    rw [if_pos c2] at q
    exact q H3 s3
  | true =>
  rw [if_neg (by rw [c2]; exact nofun)] at q
  refine iteF ⟨_, rfl, _, rfl, k, v3, d3, rfl, t3.same s3, fun H4 s4' => ⟨_, rfl, ?_⟩⟩
  have s4 := s3.trans s4'
  cases c3 : aboutD k d3 with
  | false =>
    rw [if_pos (show aboutD (kS (.str k)) d3 = false from c3)] at q
    exact q H4 s4
  | true =>
  rw [if_neg (show ¬ aboutD (kS (.str k)) d3 = false by rw [show kS (.str k) = k from rfl, c3]; exact nofun)] at q
  refine iteF ⟨_, rfl, _, rfl, k, v4, d4, rfl, hk, t4.same s4, fun H5 s5' => ⟨_, rfl, ?_⟩⟩
  have s5 := s4.trans s5'
  cases c4 : bodyD k d4 with
  | false =>
    rw [if_pos (show bodyD (kS (.str k)) d4 = false from c4)] at q
    exact q H5 s5
  | true =>
  rw [if_neg (show ¬ bodyD (kS (.str k)) d4 = false by rw [show kS (.str k) = k from rfl, c4]; exact nofun)] at q
  refine iteF ⟨_, rfl, _, rfl, _, rfl, k, v0, v5, d0, d5, rfl, t0.same s5, c0, t5.same s5, fun H6 s6' => ⟨_, rfl, ?_⟩⟩
  have s6 := s5.trans s6'
  cases c5 : namesD (decide (V.str k = V.str "begin")) d0 d5 with
  | false =>
    rw [if_pos (show namesD (decide (V.str (kS (.str k)) = V.str "begin")) d0 d5 = false from c5)] at q
    exact q H6 s6
  | true =>
  rw [if_neg (show ¬ namesD (decide (V.str (kS (.str k)) = V.str "begin")) d0 d5 = false by rw [show kS (.str k) = k from rfl, c5]; exact nofun)] at q
  refine iteF ⟨_, rfl, _, rfl, _, rfl, k, v0, v6, d0, d6, rfl, t0.same s6, c0, t6.same s6, fun H7 s7' => ⟨_, rfl, ?_⟩⟩
  have s7 := s6.trans s7'
  cases c6 : namesD (decide (V.str k = V.str "begin")) d0 d6 with
  | false =>
    rw [if_pos (show namesD (decide (V.str (kS (.str k)) = V.str "begin")) d0 d6 = false from c6)] at q
    exact q H7 s7
  | true =>
  rw [if_neg (show ¬ namesD (decide (V.str (kS (.str k)) = V.str "begin")) d0 d6 = false by rw [show kS (.str k) = k from rfl, c6]; exact nofun)] at q
  refine iteF ?_
  rcases t2.strq with ⟨z, rfl, rfl, hz, hza⟩ | hn
  · have hsp : ∃ x y, Txt.split z at1 = [x, y] := by
      have c' : personS z = true := c2
      unfold personS at c'
      split at c'
      · rename_i x y e
        exact ⟨x, y, e⟩
      · cases c'
    obtain ⟨x, y, hsp⟩ := hsp
    have hp : hsP (.str z) = y := by
      show (Txt.split z at1).getD 1 "" = y
      rw [hsp]
      rfl
    rw [hp] at q
    obtain ⟨⟨b, e0, hb⟩, _, _⟩ := t0.name c0
    subst e0
    refine ⟨_, rfl, z, x, y, rfl, hz, hsp, fun H8 s8' => ?_⟩
    have s8 := s7.trans s8'
    refine ⟨_, rfl, b, _, 0, .str (nmOf d0).1, rfl, rfl, same_seqT s8 hb, rfl, rfl, _, rfl, ?_⟩
    cases c7 : decide (V.str y = V.str (nmOf d0).1) with
    | false =>
      rw [if_pos c7] at q
      exact q H8 s8
    | true =>
      rw [if_neg (by rw [c7]; exact nofun)] at q
      exact q H8 s8
  · rw [(not_str hn).2.2] at c2
    cases c2
end
end K05

namespace K05
open PySem PySem.Spec PyProof.Rows L2 Br
/-- None, or a short text -/
def PartOk (v : V) : Prop := v = .non ∨ ∃ z : Str, v = .str z ∧ z.length ≤ 100
def spInit (C : Addr) : Sp := fun vs H Q _ => ∃ (a : Addr) (v : V), vs = [.ref a, v] ∧ PartOk v ∧ H a = some (exo a C none) ∧ ∀ dx, H dx = none → dx ≠ a → Q .non (upd (upd H dx (exd dx [("part", v)])) a (exo a C (some dx)))
def spDeed (K : PySem.W.Frag) (C : Addr) : Sp := fun vs H Q E => ∃ (v : V) (d : PyData), vs = [v] ∧ Th K H v d ∧ (amiss d = none → ∀ H', Same H H' → Q .non H') ∧
  (∀ p, amiss d = some p → ∀ H' dd, Same H H' → H dd = none → H' dd = some (.xd [("part", p)]) → E (.ref C) (some dd) H')
theorem wrong_short {d0 d1 d2 d3 d4 d5 d6 : PyData} {z : Str} (h : wrongD d0 d1 d2 d3 d4 d5 d6 = some z) : z.length ≤ 100 := by
  unfold wrongD at h
  repeat' (split at h)
  all_goals first | (cases h; decide) | cases h
theorem del_upd_same {H : Hp} {a dx : Addr} {o0 o1 o2 o3 : HO} (na : H a = none) (nd : H dx = none) (ne : dx ≠ a) : Same H (upd (L2.del (upd (upd (upd H a o0) dx o1) a o2) a) dx o3) := fun b o e => by
  have h1 : b ≠ dx := ne_of_none e nd
  have h2 : b ≠ a := ne_of_none e na
  rw [upd_ne h1, L2.del_ne h2, upd_ne h2, upd_ne h1, upd_ne h2]
  exact e
section
variable {P : Program} {w : World} {K : PySem.W.Frag} {mg : Str → Option Value} {base : Heap}
theorem ok_init (T : Txt K mg) (Y : TxtX K mg w T) : FnOk P w K mg base CX0 1 Y.fi Y.di ["self", "part"] (spInit Y.C) := by
  refine Y.Fi.ok sc_NoDeed (fun vs H Q E h => ?_) (fun cdv A outer s H vs Q E hr h => ?_)
  · obtain ⟨a, v, rfl, _⟩ := h
    rfl
  obtain ⟨a, v, rfl, hv, ha, q⟩ := h
  refine ⟨_, pss_cons (ps_expr (pe_veinit (by rfl) T.z_ValueError Y.vV (pa_cons (pv 0) (pa_cons (pe_joined (.cons pe_str (.cons (pe_fmtA (pv 1)) .nil))) pa_nil)))) (pss_one (ps_ost (pv 0) (pv 1))), ?_⟩
  have l0 : ("no deed, by its part " : Str).length = 21 := rfl
  have out : ∀ y : Str, y.length ≤ 100 → (Str.empty ++ ("no deed, by its part " : Str) ++ y).length ≤ sizeLine := fun y hy => by
    have e1 : (Str.empty ++ ("no deed, by its part " : Str) ++ y).length = (Str.empty ++ ("no deed, by its part " : Str)).length + y.length := Str.length_append ..
    have e2 : (Str.empty ++ ("no deed, by its part " : Str)).length = Str.empty.length + ("no deed, by its part " : Str).length := Str.length_append ..
    have e3 : Str.empty.length = 0 := rfl
    exact Nat.le_of_lt (small_len (by omega))
  refine ⟨_, rfl, _, rfl, (show 21 ≤ sizeLine by decide), _, rfl, ?_⟩
  have rest : ∀ y : Str, y.length ≤ 100 → ∃ (a' C : Addr) (ws : List V), [V.ref a, .str (Str.empty ++ ("no deed, by its part " : Str) ++ y)] = .ref a' :: ws ∧ ws.length ≤ 1000 ∧ OexC K C ∧ H a' = some (exo a' C none) := fun y _ => ⟨a, Y.C, _, rfl, (show 1 ≤ 1000 by decide), Y.ox, ha⟩
  rcases hv with rfl | ⟨z, rfl, hz⟩
  · refine .inl ⟨rfl, "None", rfl, out _ (by decide), a, Y.C, _, rfl, (show 1 ≤ 1000 by decide), Y.ox, ha, ?_⟩
    exact ⟨_, rfl, _, rfl, a, Y.C, rfl, Y.ox, Y.nf, .inl ⟨ha, fun dx nd ne => q dx nd ne⟩⟩
  · refine .inr (.inl ⟨z, rfl, Nat.le_of_lt (small_len (by omega)), z, rfl, out z hz, a, Y.C, _, rfl, (show 1 ≤ 1000 by decide), Y.ox, ha, ?_⟩)
    exact ⟨_, rfl, _, rfl, a, Y.C, rfl, Y.ox, Y.nf, .inl ⟨ha, fun dx nd ne => q dx nd ne⟩⟩
theorem dp7 {H : Hp} {us : List V} {ds : List PyData} (h : DpAll K H us ds) (n : us.length = 7) (ok : okAll ds = true) : ∃ v0 v1 v2 v3 v4 v5 v6 d0 d1 d2 d3 d4 d5 d6, us = [v0, v1, v2, v3, v4, v5, v6] ∧ ds = [d0, d1, d2, d3, d4, d5, d6] ∧
    Th K H v0 d0 ∧ Th K H v1 d1 ∧ Th K H v2 d2 ∧ Th K H v3 d3 ∧ Th K H v4 d4 ∧ Th K H v5 d5 ∧ Th K H v6 d6 := by
  have m := okAll_mem ok
  cases h with
  | nil => cases n
  | cons h0 h =>
  cases h with
  | nil => cases n
  | cons h1 h =>
  cases h with
  | nil => cases n
  | cons h2 h =>
  cases h with
  | nil => cases n
  | cons h3 h =>
  cases h with
  | nil => cases n
  | cons h4 h =>
  cases h with
  | nil => cases n
  | cons h5 h =>
  cases h with
  | nil => cases n
  | cons h6 h =>
  cases h with
  | cons h7 h => simp only [List.length_cons] at n; omega
  | nil =>
  exact ⟨_, _, _, _, _, _, _, _, _, _, _, _, _, _, rfl, rfl, .dp h0 (m _ (by simp)), .dp h1 (m _ (by simp)), .dp h2 (m _ (by simp)), .dp h3 (m _ (by simp)), .dp h4 (m _ (by simp)), .dp h5 (m _ (by simp)), .dp h6 (m _ (by simp))⟩
theorem ok_look_at_deed (T : Txt K mg) (Y : TxtX K mg w T) : FnOk P w K mg base (L2.CX P w) 8 T.f_look_at_deed T.d_look_at_deed ["thing"] (spDeed K Y.C) := by
  have O_wrong_part : FnOk P w K mg base CX0 7 _ _ _ _ := ok_wrong_part T Y
  have O_init : FnOk P w K mg base CX0 1 _ _ _ _ := ok_init T Y
  refine T.F_look_at_deed.okX sc_look_at_deed (fun vs H Q E h => ?_) (fun cdv A outer s H vs Q E hr h => ?_)
  · obtain ⟨v, d, rfl, _⟩ := h
    rfl
  obtain ⟨v, d, rfl, ht, q, qe⟩ := h
  refine ⟨_, (pss_cons (ps_if (PW.pt (pw_or (pt_not (pt_val (pe_callB call_isi (by rfl) T.z_isinstance (by decide +kernel) (pa_cons (pv 0) (pa_cons (pe_bltn (v := .ty "tuple") (by rfl) T.z_tuple (by decide +kernel) rfl) pa_nil))))) (pw_or1 (pt_cmpR op_ne (pe_callB call_len_seq (by rfl) T.z_len PySem.boot_len (pa_cons (pv 0) pa_nil)) pe_int (nomark _)))))
      (pss_one (ps_raise rfl (takes_of rfl rfl rfl rfl) (pmk_oex Y.ox Y.iC Y.tI O_init (hr.mono (by decide)) Y.bi .nil pass0 (by rfl) Y.mC (pa_cons pe_non pa_nil)))) pss_nil)
    (pss_cons (ps_set (i := 1) sc_look_at_deed.nd rfl (.inl rfl) (pe_call O_wrong_part (hr.mono (by decide)) (by rfl) T.m_wrong_part T.F_wrong_part.kp T.b_wrong_part .nil pass0 (pa_cons (pv 0) pa_nil)))
    (pss_one (ps_if (pt_cmpR op_notN (pv 1) pe_non (nomark _))
      (pss_one (ps_raise rfl (takes_of rfl rfl rfl rfl) (pmk_oex Y.ox Y.iC Y.tI O_init (hr.mono (by decide)) Y.bi .nil pass0 (by rfl) Y.mC (pa_cons (pv 1) pa_nil)))) pss_nil)))), ?_⟩
  have refuse : ∀ (p : V) (H1 : Hp), amiss d = some p → PartOk p → Same H H1 → ∀ a, H1 a = none → spInit Y.C [.ref a, p] (upd H1 a (exo a Y.C none)) (fun v H2 => v = .non ∧ ∃ (d : Addr) (fs : List (Str × V)), H2 a = some (exo a Y.C (some d)) ∧ H2 d = some (exd d fs) ∧ H1 d = none ∧ E (.ref Y.C) (some d) (upd (L2.del H2 a) d (.xd fs))) (fun _ _ _ => False) := by
    intro p H1 hp ok s1 a na
    refine ⟨a, p, rfl, ok, upd_same, fun dx nd ne => ⟨rfl, dx, [("part", p)], upd_same, ?_, ?_, ?_⟩⟩
    · rw [upd_ne ne, upd_same]
    · rw [upd_ne ne] at nd
      exact nd
    · rw [upd_ne ne] at nd
      refine qe p hp _ dx (s1.trans (del_upd_same na nd ne)) (s1.free nd) ?_
      rw [upd_same]
  refine ⟨v, rfl, v, .ty "tuple", _, _, _, rfl, .ty _, ht.ty, kit_tup d, _, rfl, ?_⟩
  rcases ht.tupq with ⟨a, us, ds, rfl, rfl, hs, ha, sm, sl⟩ | hn
  · refine iteF ⟨_, rfl, a, us, rfl, .inr hs, rfl, _, rfl, ?_⟩
    have hul := dps_length ha
    refine ite2 (fun c => ?_) (fun c => ?_)
    · have n7 : ds.length ≠ 7 := fun e => by
        rw [hul, e] at c
        exact absurd c (by decide)
      have e : amiss (.tuple ds) = some .non := by
        unfold amiss
        split
        · rename_i h
          cases h
          exact absurd rfl n7
        · rfl
      exact ⟨(show 1 ≤ 1000 by decide), refuse .non H e (.inl rfl) (Same.refl H)⟩
    · have n7 : us.length = 7 := by
        by_cases e : V.int (us.length : Nat) = V.int 7
        · have := V.int.inj e
          omega
        · exact absurd (by rw [decide_eq_false e]; rfl) c
      obtain ⟨v0, v1, v2, v3, v4, v5, v6, d0, d1, d2, d3, d4, d5, d6, rfl, rfl, t0, t1, t2, t3, t4, t5, t6⟩ := dp7 ha n7 sm
      refine ⟨_, rfl, a, v0, v1, v2, v3, v4, v5, v6, d0, d1, d2, d3, d4, d5, d6, rfl, hs, t0, t1, t2, t3, t4, t5, t6, fun H1 s1 => ?_⟩
      refine ⟨_, rfl, rfl, _, rfl, ?_⟩
      have ea : amiss (.tuple [d0, d1, d2, d3, d4, d5, d6]) = (wrongD d0 d1 d2 d3 d4 d5 d6).map V.str := rfl
      cases hw : wrongD d0 d1 d2 d3 d4 d5 d6 with
      | none =>
        rw [hw] at ea
        exact q ea H1 s1
      | some z =>
        rw [hw] at ea
        have rr := refuse (.str z) H1 ea (.inr ⟨z, rfl, wrong_short hw⟩) s1
        have e : (!decide (partV (some z) = V.non)) = true := by
          rw [decide_eq_false (show ¬ partV (some z) = V.non from fun h => V.noConfusion h)]
          rfl
        rw [e]
        exact iteT ⟨_, rfl, (show 1 ≤ 1000 by decide), rr⟩
  · rw [hn]
    have e : amiss d = some .non := by
      cases d with
      | tuple _ => cases hn
      | _ => rfl
    exact ⟨(show 1 ≤ 1000 by decide), refuse .non H e (.inl rfl) (Same.refl H)⟩
end
end K05

namespace K05
open PySem PySem.Spec PyProof.Rows L2 Br
def toldS (d : PyData) : Str := match amiss d with
  | none => ""
  | some (.str z) => z
  | _ => "none"
def spTold (K : PySem.W.Frag) : Sp := fun vs H Q _ => ∃ (v : V) (d : PyData), vs = [v] ∧ Th K H v d ∧ ∀ H', Same H H' → Q (.str (toldS d)) H'
theorem amiss_form {d : PyData} {p : V} (h : amiss d = some p) : p = .non ∨ ∃ z, p = .str z := by
  unfold amiss at h
  split at h
  · obtain ⟨z, _, rfl⟩ := Option.map_eq_some_iff.mp h
    exact .inr ⟨z, rfl⟩
  · cases h
    exact .inl rfl
section
variable {P : Program} {w : World} {K : PySem.W.Frag} {mg : Str → Option Value} {base : Heap}
theorem ok_law_told (T : Txt K mg) (Y : TxtX K mg w T) : FnOk P w K mg base CX0 9 T.f_law_told T.d_law_told ["_law_item"] (spTold K) := by
  have O_look_at_deed : FnOk P w K mg base (L2.CX P w) 8 _ _ _ _ := ok_look_at_deed T Y
  let SP_look_at_deed : Sp := spDeed K Y.C
  refine T.F_law_told.ok sc_law_told (fun vs H Q E h => ?_) (fun cdv A outer s H vs Q E hr h => ?_)
  · obtain ⟨v, d, rfl, _⟩ := h
    rfl
  obtain ⟨v, d, rfl, ht, q⟩ := h
  refine ⟨_, (pss_cons (ps_set (i := 1) sc_law_told.nd rfl (.inl rfl) pe_non)
    (pss_cons (ps_try_keep (i := 3) (tb := (fun W => tAsg (tCallS (SP_look_at_deed) (WE W) (tCons (tVar 0) tNil)) (gName 2))) (ts := (fun _ _ _ => tAsg (tVar 3) (gName 1))) (Wout := fun _ _ _ _ => False) rfl rfl sc_law_told.nd rfl rfl ⟨rfl, by decide, Or.inl Y.mC⟩ takes0 rfl (fun W pn xe tk _ => pss_one (ps_set (i := 2) sc_law_told.nd rfl (Or.inl rfl) (by exact (pe_callS O_look_at_deed (hr.mono (by decide)) rfl T.m_look_at_deed T.F_look_at_deed.kp T.b_look_at_deed (fun σ => passAt tk σ) (by exact (pa_cons (pv 0) pa_nil)))))) (fun a oe cls d pn hz hf => pss_one (ps_set (i := 1) sc_law_told.nd rfl (Or.inl rfl) (pv 3))))
    (pss_cons (ps_if (pt_cmpR op_isN (pv 1) pe_non (nomark _))
      (pss_one (ps_ret (pe_ix (ix_listK K) (pe_lst (pa_cons pe_str (pa_cons pe_str pa_nil))) (pe_callTy call_int1 (by rfl) T.z_int (by decide +kernel) (pa_cons (pe_cmpR op_isN (pv 2) pe_non (nomark _)) pa_nil)) (fun _ _ => rfl)))) pss_nil)
    (pss_cons (ps_if (PW.pt (pw_or (pt_not (pt_val (pe_callB call_isV (by rfl) T.z_isinstance (by decide +kernel) (pa_cons (pv 1) (pa_cons (pe_bltn (v := .ty "ValueError") (by rfl) T.z_ValueError (by decide +kernel) rfl) pa_nil))))) (pw_or1 (pt_val (pe_callB call_isVT (by rfl) T.z_isinstance (by decide +kernel) (pa_cons (pv 1) (pa_cons (pe_tup (pa_cons (pe_glob (v := .ref Y.C1) (by rfl) Y.m1 rfl) (pa_cons (pe_glob (v := .ref Y.C2) (by rfl) Y.m2 rfl) (pa_cons (pe_glob (v := .ref Y.C3) (by rfl) Y.m3 rfl) (pa_cons (pe_glob (v := .ref Y.C4) (by rfl) Y.m4 rfl) pa_nil))))) pa_nil)))))))
      (pss_one (ps_ret pe_str)) pss_nil)
    (pss_one (ps_ret (pe_ix (ix_listK K) (pe_lst (pa_cons (pe_xv (pv 1)) (pa_cons pe_str pa_nil))) (pe_callTy call_int1 (by rfl) T.z_int (by decide +kernel) (pa_cons (pe_cmpR op_isN (pe_xv (pv 1)) pe_non (nomark _)) pa_nil)) (fun _ _ => rfl)))))))), ?_⟩
  refine ⟨v, rfl, v, d, rfl, ht, fun hn H1 s1 => ?_, fun p hp H1 dd s1 nd hd => ⟨true, Y.te, fun _ a na => ?_, nofun⟩⟩
  · -- nothing is refused
    refine ⟨_, rfl, rfl, _, rfl, ?_⟩
    refine iteT ⟨two_le, fun L nL => ⟨_, rfl, rfl, .inr ⟨_, rfl, L, _, _, .str "", rfl, rfl, SqL.of upd_same, rfl, ?_⟩⟩⟩
    have e : toldS d = "" := by
      unfold toldS
      rw [hn]
    have q' := q _ (s1.trans (same_new (o := .lst [.str "odd", .str ""]) nL))
    rw [e] at q'
    exact q'
  · refine ⟨_, rfl, fun na' => ?_⟩
    have ta : Same H1 (upd H1 a (exv a (.ref Y.C) (some dd))) := same_new na'
    have ha : (upd H1 a (exv a (.ref Y.C) (some dd))) a = some (exv a (.ref Y.C) (some dd)) := upd_same
    have hdd := ta _ _ hd
    have S2 := s1.trans ta
    generalize upd H1 a (exv a (.ref Y.C) (some dd)) = H2 at *
    refine ⟨_, rfl, rfl, _, rfl, ?_⟩
    rw [decide_eq_false (show ¬ V.ref a = V.non from nofun)]
    refine iteF ?_
    refine ⟨_, rfl, a, Y.C, dd, _, .ty "ValueError", _, true, rfl, ha, hdd, Y.ec, .ty _, Y.kv, _, rfl, ?_⟩
    refine iteF ⟨_, rfl, (show 4 ≤ sizeLine by decide), fun tp ntp => ?_⟩
    have tt := same_new (o := .tup [.ref Y.C1, .ref Y.C2, .ref Y.C3, .ref Y.C4]) ntp
    refine ⟨a, Y.C, dd, tp, _, _, [.ref Y.C1, .ref Y.C2, .ref Y.C3, .ref Y.C4], false, rfl, tt _ _ ha, tt _ _ hdd, upd_same, Y.ec, .cons (.own _) (.cons (.own _) (.cons (.own _) (.cons (.own _) .nil))), Y.ka, _, rfl, ?_⟩
    refine iteF ?_
    have S3 := S2.trans tt
    refine ⟨_, rfl, a, Y.C, dd, _, p, rfl, tt _ _ ha, tt _ _ hdd, Y.xf, Y.nf, rfl, two_le, fun L nL => ?_⟩
    have tl := same_new (o := .lst [p, .str "none"]) nL
    refine ⟨_, rfl, a, Y.C, dd, _, p, rfl, tl _ _ (tt _ _ ha), tl _ _ (tt _ _ hdd), Y.xf, Y.nf, rfl, rfl, .inr ⟨_, rfl, ?_⟩⟩
    have q' := q _ (S3.trans tl)
    unfold toldS at q'
    rw [hp] at q'
    rcases amiss_form hp with rfl | ⟨z, rfl⟩
    · exact ⟨L, _, 1, .str "none", rfl, rfl, SqL.of upd_same, rfl, q'⟩
    · exact ⟨L, _, 0, .str z, rfl, by rw [decide_eq_false (show ¬ V.str z = V.non from nofun)]; rfl, SqL.of upd_same, rfl, q'⟩
end
end K05

namespace K05d
open PySem PySem.Spec PyProof.Rows L2 Br Dl K05
def k_KINDS : D := .tuple .wri [.str "begin", .str "seat", .str "ranks", .str "door", .str "say", .str "strike", .str "move"]
def k_WORDS : D := .tuple .wri [.str "bar", .str "call", .str "door", .str "move", .str "out", .str "ranks", .str "say", .str "strike"]
def k_KEYED : D := .tuple .wri [.str "begin", .str "seat", .str "ranks", .str "door", .str "move"]
structure TxtX (K : PySem.W.Frag) (mg : Str → Option Value) (w : World) (T : Txt K mg) where
  X : K05.TxtX K mg w T
  a_KINDS : Addr
  m_KINDS : mg "KINDS" = some (.ref a_KINDS)
  r_KINDS : ∀ G, Rp K G (.ref a_KINDS) k_KINDS
  a_WORDS : Addr
  m_WORDS : mg "WORDS" = some (.ref a_WORDS)
  r_WORDS : ∀ G, Rp K G (.ref a_WORDS) k_WORDS
  a_KEYED : Addr
  m_KEYED : mg "KEYED" = some (.ref a_KEYED)
  r_KEYED : ∀ G, Rp K G (.ref a_KEYED) k_KEYED
  kx_0 : ∀ (s : Shared) (ws : List Value), ws.length = 1 → BindsTo s T.d_key_of ⟨[], (["deed"] : List Str).zip ws⟩ ((["deed"] : List Str).zip (perm [0] ws))
abbrev F_law_told : Fs := F_look (fun d => (toPy d).hasDict = false ∧ K05.okD (toPy d) = true) (fun d => toldS (toPy d))
theorem d_law_told {P : Program} {w : World} {K : PySem.W.Frag} {mg : Str → Option Value} {base : Heap} (T : K05.Txt K mg) (Y : TxtX K mg w T) : FnD P w K mg base 9 T.f_law_told T.d_law_told ["_law_item"] 0 F_law_told :=
  fnD_look (FnG.of (ok_law_told T Y.X)) fun v d H Q E r ok q => ⟨v, toPy d, rfl, .dp (rp_nd' d v r ok.1) ok.2, q⟩
def b_key_of : MS := (sSeq (sSet 1 (mOp oIx (mVar 0) (mC (.int 1))))
    (sRet (mIfE (mTest (mOp (oIn false) (mVar 1) (mC k_KEYED))) (mTup (aCons (mVar 1) (aCons (mOp oIx (mVar 0) (mC (.int 3))) aNil))) (mC .none))))
def F_key_of : Fs := Fof 1 1 0 b_key_of
theorem d_key_of {P : Program} {w : World} {K : PySem.W.Frag} {mg : Str → Option Value} {base : Heap} (T : Txt K mg) (Y : TxtX K mg w T) : FnD P w K mg base 1 T.f_key_of T.d_key_of ["deed"] 0 F_key_of := by
  refine fn_of T.F_key_of sc_key_of (by decide) rfl rfl fun cdv Ar out s0 H E hG hr => ?_
  exact (sb_cons (ss_set (i := 1) (by decide) sc_key_of.nd rfl (.inl rfl) (se_item rfl (Room.u1 hr) (se_var (pv 0)) (SE.V (se_glob (v := .int 1) (d := .int 1) (by rfl) T.c_KIND ⟨_, rfl⟩ (fun _ => .int _))) (fun _ _ => rfl)))
    (sb_one (ss_ret (se_if (st_c (c_in rfl (Room.u65 hr)) (se_var (pv 1)) (SE.V (se_glob (v := .ref Y.a_KEYED) (by rfl) Y.m_KEYED rfl Y.r_KEYED)) (by rfl)) (se_tup (sa_cons (se_var (pv 1)) (sa_cons (se_item rfl (Room.u1 hr) (se_var (pv 0)) (SE.V (se_glob (v := .int 3) (d := .int 3) (by rfl) T.c_ABOUT ⟨_, rfl⟩ (fun _ => .int _))) (fun _ _ => rfl)) sa_nil))) se_non keepE))))
def b_law_pool : MS := (sSeqF (sSet 2 (mC (.int 0)))
    (sSeqF (sIf (mTest (mOp oLt (mVar 1) (mUn oLen (mVar 0))))
      (sSet 2 (mOp oIx (mVar 0) (mVar 1)))
      sNext)
    (sSeqF (sSet 3 (mOn oMax (aCons (mVar 2) (aCons (mOp oSub (mUn oNeg (mC (.int 1))) (mVar 2)) aNil))))
    (sSeqF (sSet 4 (mOp oMod (mOp oMul (mOp oAdd (mOp oAdd (mOp oAdd (mOp oMod (mVar 3) (mC (.int 2147483629))) (mOp oMul (mOp oMul (mC (.int 7919)) (mVar 1)) (mVar 1))) (mOp oMul (mC (.int 31)) (mVar 1))) (mC (.int 17))) (mC (.int 48271))) (mC (.int 2147483647))))
    (sRet (mLst (aCons (mOp oMul (mVar 3) (mUn oInt (mOp oGe (mVar 3) (mOp oPow (mC (.int 10)) (mC (.int 18)))))) (aCons (mVar 4) aNil))))))))
def F_law_pool : Ff := FofF 2 3 b_law_pool
theorem d_law_pool {P : Program} {w : World} {K : PySem.W.Frag} {mg : Str → Option Value} {base : Heap} (T : Txt K mg) (Y : TxtX K mg w T) : FnF P w K mg base 1 T.f_law_pool T.d_law_pool ["_law_script", "_law_k"] F_law_pool := by
  refine fn_ofF T.F_law_pool sc_law_pool rfl rfl (fun cdv Ar out s0 H E hG hr => ?_)
  exact (sbf_cons (ss_set (i := 2) (by decide) sc_law_pool.nd rfl (.inl rfl) se_int)
    (sbf_cons (ss_if (st_c (c_lt rfl) (se_var (pv 1)) (SE.V (se_len rfl (by rfl) T.z_len (SE.V (se_var (pv 0))))) (nomark _))
      (sb_one (ss_set (i := 2) (by decide) sc_law_pool.nd rfl (.inl rfl) (se_item rfl (Room.u1 hr) (se_var (pv 0)) (SE.V (se_var (pv 1))) (fun _ _ => rfl)))) sb_nil)
    (sbf_cons (ss_set (i := 3) (by decide) sc_law_pool.nd rfl (.inl rfl) (se_max rfl rfl (by rfl) T.z_max (sa_cons (se_var (pv 2)) (sa_cons (se_sub rfl (se_neg rfl (SE.V se_int)) (SE.V (se_var (pv 2)))) sa_nil))))
    (sbf_cons (ss_set (i := 4) (by decide) sc_law_pool.nd rfl (.inl rfl) (se_mod rfl (se_mul rfl (se_add rfl (se_add rfl (se_add rfl (se_mod rfl (se_var (pv 3)) (SE.V se_int)) (SE.V (se_mul rfl (se_mul rfl se_int (SE.V (se_var (pv 1)))) (SE.V (se_var (pv 1)))))) (SE.V (se_mul rfl se_int (SE.V (se_var (pv 1)))))) (SE.V se_int)) (SE.V se_int)) (SE.V se_int)))
    (sbf_ret (se_lst (sa_cons (se_mul rfl (se_var (pv 3)) (SE.V (se_int_of (by rfl) T.z_int (SE.V (se_c (c_ge rfl) (se_var (pv 3)) (SE.V (se_pow rfl se_int (SE.V se_int))) (nomark _)))))) (sa_cons (se_var (pv 4)) sa_nil))))))))
def b_law_take : MS := (sSeq (sIf (mTest (mOp oGt (mOpO oIx 0 (mC (.int 0))) (mC (.int 0))))
      (sSeq (sSet 2 (mOp oMod (mOpO oIx 0 (mC (.int 0))) (mVar 1)))
    (sSeq (sPut 0 (mOp oFdiv (mOpO oIx 0 (mC (.int 0))) (mVar 1)) (mC (.int 0)))
    (sRet (mVar 2))))
      sNext)
    (sSeq (sPut 0 (mOp oMod (mOp oAdd (mOp oMul (mOpO oIx 0 (mC (.int 1))) (mC (.int 69621))) (mC (.int 7))) (mC (.int 2147483647))) (mC (.int 1)))
    (sRet (mOp oMod (mOp oFdiv (mOp oMod (mOp oMul (mOpO oIx 0 (mC (.int 1))) (mOpO oIx 0 (mC (.int 1)))) (mC (.int 2147483629))) (mC (.int 32))) (mVar 1)))))
def F_law_take : Fs := Fof 2 1 1 b_law_take
theorem d_law_take {P : Program} {w : World} {K : PySem.W.Frag} {mg : Str → Option Value} {base : Heap} (T : Txt K mg) (Y : TxtX K mg w T) : FnD P w K mg base 1 T.f_law_take T.d_law_take ["_law_pool_here", "_law_many"] 1 F_law_take := by
  refine fn_of T.F_law_take sc_law_take (by decide) rfl rfl fun cdv Ar out s0 H E hG hr => ?_
  exact (sb_cons (ss_if (st_c (c_gt rfl) (se_itemO rfl (Room.u1 hr) (pv 0) (SE.V se_int) (fun _ _ => rfl)) (SE.V se_int) (nomark _))
      (sb_cons (ss_set (i := 2) (by decide) sc_law_take.nd rfl (.inl rfl) (se_mod rfl (se_itemO rfl (Room.u1 hr) (pv 0) (SE.V se_int) (fun _ _ => rfl)) (SE.V (se_var (pv 1)))))
    (sb_cons (ss_put (i := 0) rfl hr (pv 0) (se_fdiv rfl (se_itemO rfl (Room.u1 hr) (pv 0) (SE.V se_int) (fun _ _ => rfl)) (SE.V (se_var (pv 1)))) se_int)
    (sb_one (ss_ret (se_var (pv 2)))))) sb_nil)
    (sb_cons (ss_put (i := 0) rfl hr (pv 0) (se_mod rfl (se_add rfl (se_mul rfl (se_itemO rfl (Room.u1 hr) (pv 0) (SE.V se_int) (fun _ _ => rfl)) (SE.V se_int)) (SE.V se_int)) (SE.V se_int)) se_int)
    (sb_one (ss_ret (se_mod rfl (se_fdiv rfl (se_mod rfl (se_mul rfl (se_itemO rfl (Room.u1 hr) (pv 0) (SE.V se_int) (fun _ _ => rfl)) (SE.V (se_itemO rfl (Room.u1 hr) (pv 0) (SE.V se_int) (fun _ _ => rfl)))) (SE.V se_int)) (SE.V se_int)) (SE.V (se_var (pv 1))))))))
def b_law_letters : MS := (sSeq (sSet 2 (mC (.str "abcdefghijklmnopqrstuvwxyz")))
    (sRet (mJoin (mC (.str "")) (mLc (mRng1 (aCons (mVar 1) aNil)) (mgName 3) mYes (mOp oIx (mVar 2) (mCall F_law_take 1 (rOwn 0 (rCons (mC (.int 26)) rNil)))) [3]))))
def F_law_letters : Fs := Fof 2 2 1 b_law_letters
theorem d_law_letters {P : Program} {w : World} {K : PySem.W.Frag} {mg : Str → Option Value} {base : Heap} (T : Txt K mg) (Y : TxtX K mg w T) : FnD P w K mg base 2 T.f_law_letters T.d_law_letters ["_law_pool_here", "_law_many"] 1 F_law_letters := by
  have O_law_take := d_law_take (P := P) (w := w) (base := base) T Y
  refine fn_of T.F_law_letters sc_law_letters (by decide) rfl rfl fun cdv Ar out s0 H E hG hr => ?_
  exact (sb_cons (ss_set (i := 2) (by decide) sc_law_letters.nd rfl (.inr rfl) se_str)
    (sb_one (ss_ret (se_join rfl se_str (SE.FV (se_lc (own := [("_law_turn", 3)]) (g := (gName 3)) (mg := (mgName 3)) (mt := mYes) (me := (mOp oIx (mVar 2) (mCall F_law_take 1 (rOwn 0 (rCons (mC (.int 26)) rNil))))) rfl sc_law_letters.nd (si_range1 (by rfl) T.z_range (sa_cons (se_var (pv 1)) sa_nil)) (blkOk_by (own := [("_law_turn", 3)]) (N := ["_law_pool_here", "_law_many", "_law_letters_here", "_law_turn"]) (sc := defScope s_law_letters) (by decide +kernel)) (fun _ _ _ _ _ => (pg_name (i := 3) sc_law_letters.nd rfl (Or.inl rfl))) (sg_name (by decide)) (by decide) (fun _ _ _ _ _ => sts_nil) (fun _ _ _ _ _ => (se_item rfl (Room.u1 hr) (se_var (pv 2)) (SE.V (se_callD O_law_take rfl hG hr (by decide) (by rfl) T.m_law_take T.F_law_take.kp T.b_law_take (sr_own (pv 0) (sr_cons se_int sr_nil)))) (fun _ _ => rfl)))))))))
def b_law_title : MS := (sRet (mTup (aCons (mVar 1) (aCons (mOp oIx (mLst (aCons (mC (.int 0)) (aCons (mC (.int 7)) (aCons (mCall F_law_take 1 (rOwn 0 (rCons (mC (.int 100)) rNil))) (aCons (mC (.int 99999)) aNil))))) (mCall F_law_take 1 (rOwn 0 (rCons (mC (.int 4)) rNil)))) aNil))))
def F_law_title : Fs := Fof 2 0 1 b_law_title
theorem d_law_title {P : Program} {w : World} {K : PySem.W.Frag} {mg : Str → Option Value} {base : Heap} (T : Txt K mg) (Y : TxtX K mg w T) : FnD P w K mg base 2 T.f_law_title T.d_law_title ["_law_pool_here", "_law_home"] 1 F_law_title := by
  have O_law_take := d_law_take (P := P) (w := w) (base := base) T Y
  refine fn_of T.F_law_title sc_law_title (by decide) rfl rfl fun cdv Ar out s0 H E hG hr => ?_
  exact (sb_one (ss_ret (se_tup (sa_cons (se_var (pv 1)) (sa_cons (se_item rfl (Room.u1 hr) (SE.F (se_lst (sa_cons se_int (sa_cons se_int (sa_cons (se_callD O_law_take rfl hG hr (by decide) (by rfl) T.m_law_take T.F_law_take.kp T.b_law_take (sr_own (pv 0) (sr_cons se_int sr_nil))) (sa_cons se_int sa_nil)))))) (SE.V (se_callD O_law_take rfl hG hr (by decide) (by rfl) T.m_law_take T.F_law_take.kp T.b_law_take (sr_own (pv 0) (sr_cons se_int sr_nil)))) (fun _ _ => rfl)) sa_nil)))))
end K05d

namespace K05d
open PySem PySem.Spec PyProof.Rows L2 Br Dl K05
def b_law_folk : MS := (sSeq (mFro 2 (sSetO 2 (mLc (mRng1 (aCons (mC (.int 2)) aNil)) (mgName 3) mYes (mCall F_law_letters 1 (rOwn 0 (rCons (mOp oAdd (mC (.int 1)) (mCall F_law_take 1 (rOwn 0 (rCons (mC (.int 3)) rNil)))) rNil))) [3])))
    (sSeq (sSetO 4 (mLst aNil))
    (sSeq (sFor (mRng1 (aCons (mVar 1) aNil)) (mgName 5)
      (sSeq (sSet 6 (mOp oAdd (mCall F_law_letters 1 (rOwn 0 (rCons (mOp oAdd (mC (.int 1)) (mCall F_law_take 1 (rOwn 0 (rCons (mC (.int 2)) rNil)))) rNil))) (mOp oIx (mC (.str "xyzuvw")) (mVar 5))))
    (sAppend 4 (mOp oAdd (mOp oAdd (mVar 6) (mC (.str "@"))) (mOp oIx (mVar 2) (mCall F_law_take 1 (rOwn 0 (rCons (mC (.int 2)) rNil))))))))
    (sSeq (sIf (mAnd (mTest (mOp oNe (mOp oIx (mVar 2) (mC (.int 0))) (mOp oIx (mVar 2) (mC (.int 1))))) (mTest (mOp oEq (mCall F_law_take 1 (rOwn 0 (rCons (mC (.int 3)) rNil))) (mC (.int 0)))))
      (sSeq (sSet 7 (mSplit (mOpO oIx 4 (mC (.int 1))) (mC (.str "@"))))
    (sPut 4 (mOp oAdd (mOp oAdd (mOp oIx (mVar 7) (mC (.int 0))) (mC (.str "@"))) (mOp oIx (mVar 2) (mUn oInt (mOp oEq (mOp oIx (mVar 7) (mC (.int 1))) (mOp oIx (mVar 2) (mC (.int 0))))))) (mUn oNeg (mC (.int 1)))))
      sNext)
    (sRet (mFrz 4))))))
def F_law_folk : Fs := Fof 2 6 1 b_law_folk
theorem d_law_folk {P : Program} {w : World} {K : PySem.W.Frag} {mg : Str → Option Value} {base : Heap} (T : Txt K mg) (Y : TxtX K mg w T) : FnD P w K mg base 3 T.f_law_folk T.d_law_folk ["_law_pool_here", "_law_many"] 1 F_law_folk := by
  have O_law_letters := d_law_letters (P := P) (w := w) (base := base) T Y
  have O_law_take := d_law_take (P := P) (w := w) (base := base) T Y
  refine fn_of T.F_law_folk sc_law_folk (by decide) rfl rfl fun cdv Ar out s0 H E hG hr => ?_
  exact (sb_cons (SS.fro (i := 2) (ss_setLc (i := 2) (own := [("_law_turn", 3)]) (g := (gName 3)) (mg := (mgName 3)) (mt := mYes) (me := (mCall F_law_letters 1 (rOwn 0 (rCons (mOp oAdd (mC (.int 1)) (mCall F_law_take 1 (rOwn 0 (rCons (mC (.int 3)) rNil)))) rNil)))) (by decide) rfl sc_law_folk.nd rfl rfl (sw_true rfl rfl rfl (by decide +kernel)) (si_range1 (by rfl) T.z_range (sa_cons se_int sa_nil)) (blkOk_by (own := [("_law_turn", 3)]) (N := ["_law_pool_here", "_law_many", "_law_homes", "_law_turn", "_law_found", "_law_k", "_law_one", "_law_parts"]) (sc := defScope s_law_folk) (by decide +kernel)) (fun _ _ _ _ _ => (pg_name (i := 3) sc_law_folk.nd rfl (Or.inl rfl))) (sg_name (by decide)) (by decide) (fun _ _ _ _ _ => sts_nil) (fun _ _ _ _ _ => (se_callD O_law_letters rfl hG hr (by decide) (by rfl) T.m_law_letters T.F_law_letters.kp T.b_law_letters (sr_own (pv 0) (sr_cons (se_add rfl se_int (SE.V (se_callD O_law_take rfl hG hr (by decide) (by rfl) T.m_law_take T.F_law_take.kp T.b_law_take (sr_own (pv 0) (sr_cons se_int sr_nil))))) sr_nil))))))
    (sb_cons (ss_setO (i := 4) (by decide) sc_law_folk.nd rfl (.inl rfl) (se_lst sa_nil))
    (sb_cons (ss_for (g := (gName 5)) (mg := (mgName 5)) PassesOwn.never rfl (si_range1 (by rfl) T.z_range (sa_cons (se_var (pv 1)) sa_nil)) (pg_name (i := 5) sc_law_folk.nd rfl (.inl rfl)) (sg_name (by decide))
      (sb_cons (ss_set (i := 6) (by decide) sc_law_folk.nd rfl (.inl rfl) (se_add rfl (se_callD O_law_letters rfl hG hr (by decide) (by rfl) T.m_law_letters T.F_law_letters.kp T.b_law_letters (sr_own (pv 0) (sr_cons (se_add rfl se_int (SE.V (se_callD O_law_take rfl hG hr (by decide) (by rfl) T.m_law_take T.F_law_take.kp T.b_law_take (sr_own (pv 0) (sr_cons se_int sr_nil))))) sr_nil))) (SE.V (se_item rfl (Room.u1 hr) se_str (SE.V (se_var (pv 5))) (fun _ _ => rfl)))))
    (sb_one (ss_append (i := 4) rfl (pv 4) (se_add rfl (se_add rfl (se_var (pv 6)) (SE.V se_str)) (SE.V (se_item rfl (Room.u1 hr) (se_var (pv 2)) (SE.V (se_callD O_law_take rfl hG hr (by decide) (by rfl) T.m_law_take T.F_law_take.kp T.b_law_take (sr_own (pv 0) (sr_cons se_int sr_nil)))) (fun _ _ => rfl))))))))
    (sb_cons (ss_if (SW.st (sw_and (st_c (c_ne rfl hr.units) (se_item rfl (Room.u1 hr) (se_var (pv 2)) (SE.V se_int) (fun _ _ => rfl)) (SE.V (se_item rfl (Room.u1 hr) (se_var (pv 2)) (SE.V se_int) (fun _ _ => rfl))) (nomark _)) (sw_and1 (st_c (c_eq rfl hr.units) (se_callD O_law_take rfl hG hr (by decide) (by rfl) T.m_law_take T.F_law_take.kp T.b_law_take (sr_own (pv 0) (sr_cons se_int sr_nil))) (SE.V se_int) (nomark _)))))
      (sb_cons (ss_set (i := 7) (by decide) sc_law_folk.nd rfl (.inl rfl) (SE.F (se_split rfl (se_itemO rfl (Room.u1 hr) (pv 4) (SE.V se_int) (fun _ _ => rfl)) se_str)))
    (sb_one (ss_put (i := 4) rfl hr (pv 4) (se_add rfl (se_add rfl (se_item rfl (Room.u1 hr) (se_var (pv 7)) (SE.V se_int) (fun _ _ => rfl)) (SE.V se_str)) (SE.V (se_item rfl (Room.u1 hr) (se_var (pv 2)) (SE.V (se_int_of (by rfl) T.z_int (SE.V (se_c (c_eq rfl hr.units) (se_item rfl (Room.u1 hr) (se_var (pv 7)) (SE.V se_int) (fun _ _ => rfl)) (SE.V (se_item rfl (Room.u1 hr) (se_var (pv 2)) (SE.V se_int) (fun _ _ => rfl))) (nomark _))))) (fun _ _ => rfl)))) (se_neg rfl (SE.V se_int))))) sb_nil)
    (sb_one (ss_ret (se_frz (pv 4))))))))
end K05d

namespace K05d
open PySem PySem.Spec PyProof.Rows L2 Br Dl K05
def b_law_rank_rows : MS := (sSeq (sSet 2 (mLst (aCons (mC (.int 0)) (aCons (mOp oAdd (mC (.int 1)) (mCall F_law_take 1 (rOwn 0 (rCons (mC (.int 98)) rNil)))) (aCons (mC (.int 50)) (aCons (mC (.int 50)) (aCons (mC (.int 99)) (aCons (mC (.int 100)) aNil))))))))
    (sSeq (sSet 3 (mUn oSorted_pairs (mLc (mItems dLst (mVar 1)) (mgName 4) (mTest (mOp oGt (mCall F_law_take 1 (rOwn 0 (rCons (mC (.int 4)) rNil))) (mC (.int 0)))) (mTup (aCons (mVar 4) (aCons (mOp oIx (mVar 2) (mCall F_law_take 1 (rOwn 0 (rCons (mC (.int 6)) rNil)))) aNil))) [4])))
    (sSeq (sSet 5 (mLst (aCons (mC (.str "bar")) (aCons (mC (.str "call")) (aCons (mC (.str "door")) (aCons (mC (.str "move")) (aCons (mC (.str "out")) (aCons (mC (.str "ranks")) (aCons (mC (.str "say")) (aCons (mC (.str "strike")) aNil))))))))))
    (sRet (mTup (aCons (mUn oTupOf (mVar 3)) (aCons (mUn oTupOf (mLc (mItems dLst (mVar 5)) (mgName 6) (mTest (mOp oEq (mCall F_law_take 1 (rOwn 0 (rCons (mC (.int 3)) rNil))) (mC (.int 0)))) (mTupZ (aCons (mVar 6) (aCons (mOp oIx (mVar 2) (mCall F_law_take 1 (rOwn 0 (rCons (mC (.int 6)) rNil)))) aNil))) [6])) aNil)))))))
def F_law_rank_rows : Fs := Fof 2 5 1 b_law_rank_rows
theorem d_law_rank_rows {P : Program} {w : World} {K : PySem.W.Frag} {mg : Str → Option Value} {base : Heap} (T : Txt K mg) (Y : TxtX K mg w T) : FnD P w K mg base 2 T.f_law_rank_rows T.d_law_rank_rows ["_law_pool_here", "_law_folk_here"] 1 F_law_rank_rows := by
  have O_law_take := d_law_take (P := P) (w := w) (base := base) T Y
  refine fn_of T.F_law_rank_rows sc_law_rank_rows (by decide) rfl rfl fun cdv Ar out s0 H E hG hr => ?_
  exact (sb_cons (ss_set (i := 2) (by decide) sc_law_rank_rows.nd rfl (.inr rfl) (SE.F (se_lst (sa_cons se_int (sa_cons (se_add rfl se_int (SE.V (se_callD O_law_take rfl hG hr (by decide) (by rfl) T.m_law_take T.F_law_take.kp T.b_law_take (sr_own (pv 0) (sr_cons se_int sr_nil))))) (sa_cons se_int (sa_cons se_int (sa_cons se_int (sa_cons se_int sa_nil)))))))))
    (sb_cons (ss_set (i := 3) (by decide) sc_law_rank_rows.nd rfl (.inl rfl) (SE.F (se_sorted_pairs rfl hr (by rfl) T.z_sorted (SE.FV (se_lc (own := [("_law_one", 4)]) (g := (gName 4)) (mg := (mgName 4)) (mt := (mTest (mOp oGt (mCall F_law_take 1 (rOwn 0 (rCons (mC (.int 4)) rNil))) (mC (.int 0))))) (me := (mTup (aCons (mVar 4) (aCons (mOp oIx (mVar 2) (mCall F_law_take 1 (rOwn 0 (rCons (mC (.int 6)) rNil)))) aNil)))) rfl sc_law_rank_rows.nd (si_list (se_var (pv 1)) rfl) (blkOk_by (own := [("_law_one", 4)]) (N := ["_law_pool_here", "_law_folk_here", "_law_ranks", "_law_some", "_law_one", "_law_words", "_law_word"]) (sc := defScope s_law_rank_rows) (by decide +kernel)) (fun _ _ _ _ _ => (pg_name (i := 4) sc_law_rank_rows.nd rfl (Or.inl rfl))) (sg_name (by decide)) (by decide) (fun _ _ _ _ _ => sts_one (st_c (c_gt rfl) (se_callD O_law_take rfl hG hr (by decide) (by rfl) T.m_law_take T.F_law_take.kp T.b_law_take (sr_own (pv 0) (sr_cons se_int sr_nil))) (SE.V se_int) (nomark _))) (fun _ _ _ _ _ => (se_tup (sa_cons (se_var (pv 4)) (sa_cons (se_item rfl (Room.u1 hr) (se_var (pv 2)) (SE.V (se_callD O_law_take rfl hG hr (by decide) (by rfl) T.m_law_take T.F_law_take.kp T.b_law_take (sr_own (pv 0) (sr_cons se_int sr_nil)))) (fun _ _ => rfl)) sa_nil)))))))))
    (sb_cons (ss_set (i := 5) (by decide) sc_law_rank_rows.nd rfl (.inl rfl) (SE.F (se_lst (sa_cons se_str (sa_cons se_str (sa_cons se_str (sa_cons se_str (sa_cons se_str (sa_cons se_str (sa_cons se_str (sa_cons se_str sa_nil)))))))))))
    (sb_one (ss_ret (se_tup (sa_cons (se_tuple_of rfl (by rfl) T.z_tuple (SE.V (se_var (pv 3)))) (sa_cons (se_tuple_of rfl (by rfl) T.z_tuple (SE.FV (se_lc (own := [("_law_word", 6)]) (g := (gName 6)) (mg := (mgName 6)) (mt := (mTest (mOp oEq (mCall F_law_take 1 (rOwn 0 (rCons (mC (.int 3)) rNil))) (mC (.int 0))))) (me := (mTupZ (aCons (mVar 6) (aCons (mOp oIx (mVar 2) (mCall F_law_take 1 (rOwn 0 (rCons (mC (.int 6)) rNil)))) aNil)))) rfl sc_law_rank_rows.nd (si_list (se_var (pv 5)) rfl) (blkOk_by (own := [("_law_word", 6)]) (N := ["_law_pool_here", "_law_folk_here", "_law_ranks", "_law_some", "_law_one", "_law_words", "_law_word"]) (sc := defScope s_law_rank_rows) (by decide +kernel)) (fun _ _ _ _ _ => (pg_name (i := 6) sc_law_rank_rows.nd rfl (Or.inl rfl))) (sg_name (by decide)) (by decide) (fun _ _ _ _ _ => sts_one (st_c (c_eq rfl hr.units) (se_callD O_law_take rfl hG hr (by decide) (by rfl) T.m_law_take T.F_law_take.kp T.b_law_take (sr_own (pv 0) (sr_cons se_int sr_nil))) (SE.V se_int) (nomark _))) (fun _ _ _ _ _ => (se_tupZ (sa_cons (se_var (pv 6)) (sa_cons (se_item rfl (Room.u1 hr) (se_var (pv 2)) (SE.V (se_callD O_law_take rfl hG hr (by decide) (by rfl) T.m_law_take T.F_law_take.kp T.b_law_take (sr_own (pv 0) (sr_cons se_int sr_nil)))) (fun _ _ => rfl)) sa_nil))))))) sa_nil))))))))
end K05d

namespace K05d
open PySem PySem.Spec PyProof.Rows L2 Br Dl K05
def b_law_titles : MS := (sSeq (sSetO 3 (mLst aNil))
    (sSeq (sFor (mRng1 (aCons (mOp oAdd (mC (.int 1)) (mCall F_law_take 1 (rOwn 0 (rCons (mVar 2) rNil)))) aNil)) (mgName 4)
      (sSeq (sSet 5 (mTup (aCons (mOp oIx (mLst (aCons (mC (.str "a")) (aCons (mC (.str "b")) (aCons (mC (.str "zz")) (aCons (mOp oIx (mVar 1) (mC (.int 0))) aNil))))) (mCall F_law_take 1 (rOwn 0 (rCons (mC (.int 4)) rNil)))) (aCons (mCall F_law_take 1 (rOwn 0 (rCons (mC (.int 12)) rNil))) aNil))))
    (sIf (mAnd (mTest (mOp oNe (mVar 5) (mVar 1))) (mTest (mOp (oIn true) (mVar 5) (mOwn 3))))
      (sAppend 3 (mVar 5))
      sNext)))
    (sSeq (sIf (mTest (mOpO oEq 3 (mLst aNil)))
      (sAppend 3 (mTup (aCons (mOp oAdd (mC (.str "q")) (mSlice (mOp oIx (mVar 1) (mC (.int 0))) pNo (pSome (mC (.int 7))))) (aCons (mC (.int 3)) aNil))))
      sNext)
    (sRet (mUn oTupOf (mUn oSorted_pairs (mOwn 3)))))))
def F_law_titles : Fs := Fof 3 3 1 b_law_titles
theorem d_law_titles {P : Program} {w : World} {K : PySem.W.Frag} {mg : Str → Option Value} {base : Heap} (T : Txt K mg) (Y : TxtX K mg w T) : FnD P w K mg base 2 T.f_law_titles T.d_law_titles ["_law_pool_here", "_law_own", "_law_most"] 1 F_law_titles := by
  have O_law_take := d_law_take (P := P) (w := w) (base := base) T Y
  refine fn_of T.F_law_titles sc_law_titles (by decide) rfl rfl fun cdv Ar out s0 H E hG hr => ?_
  exact (sb_cons (ss_setO (i := 3) (by decide) sc_law_titles.nd rfl (.inl rfl) (se_lst sa_nil))
    (sb_cons (ss_for (g := (gName 4)) (mg := (mgName 4)) PassesOwn.never rfl (si_range1 (by rfl) T.z_range (sa_cons (se_add rfl se_int (SE.V (se_callD O_law_take rfl hG hr (by decide) (by rfl) T.m_law_take T.F_law_take.kp T.b_law_take (sr_own (pv 0) (sr_cons (se_var (pv 2)) sr_nil))))) sa_nil)) (pg_name (i := 4) sc_law_titles.nd rfl (.inl rfl)) (sg_name (by decide))
      (sb_cons (ss_set (i := 5) (by decide) sc_law_titles.nd rfl (.inl rfl) (se_tup (sa_cons (se_item rfl (Room.u1 hr) (SE.F (se_lst (sa_cons se_str (sa_cons se_str (sa_cons se_str (sa_cons (se_item rfl (Room.u1 hr) (se_var (pv 1)) (SE.V se_int) (fun _ _ => rfl)) sa_nil)))))) (SE.V (se_callD O_law_take rfl hG hr (by decide) (by rfl) T.m_law_take T.F_law_take.kp T.b_law_take (sr_own (pv 0) (sr_cons se_int sr_nil)))) (fun _ _ => rfl)) (sa_cons (se_callD O_law_take rfl hG hr (by decide) (by rfl) T.m_law_take T.F_law_take.kp T.b_law_take (sr_own (pv 0) (sr_cons se_int sr_nil))) sa_nil))))
    (sb_one (ss_if (SW.st (sw_and (st_c (c_ne rfl hr.units) (se_var (pv 5)) (SE.V (se_var (pv 1))) (nomark _)) (sw_and1 (st_c (c_notIn rfl (Room.u65 hr)) (se_var (pv 5)) (se_own (pv 3)) (by rfl)))))
      (sb_one (ss_append (i := 3) rfl (pv 3) (se_var (pv 5)))) sb_nil))))
    (sb_cons (ss_if (st_cO (i := 3) (c_eq rfl hr.units) (pv 3) (SE.FV (se_lst sa_nil)) (nomark _))
      (sb_one (ss_append (i := 3) rfl (pv 3) (se_tup (sa_cons (se_add rfl se_str (SE.V (se_slice rfl (se_item rfl (Room.u1 hr) (se_var (pv 1)) (SE.V se_int) (fun _ _ => rfl)) so_none (so_some se_int)))) (sa_cons se_int sa_nil))))) sb_nil)
    (sb_one (ss_ret (se_tuple_of rfl (by rfl) T.z_tuple (SE.FV (se_sorted_pairs rfl hr (by rfl) T.z_sorted (se_own (pv 3))))))))))
end K05d

namespace K05d
open PySem PySem.Spec PyProof.Rows L2 Br Dl K05
def b_law_content : MS := (sSeq (sIf (mTest (mOp oEq (mVar 1) (mC (.str "begin"))))
      (sRet (mTup (aCons (mOp oAdd (mC (.int 1)) (mCall F_law_take 1 (rOwn 0 (rCons (mC (.int 2)) rNil)))) (aCons (mOp oIx (mLst (aCons (mC .none) (aCons (mTupZ (aCons (mC (.str "old")) (aCons (mCall F_law_take 1 (rOwn 0 (rCons (mC (.int 9)) rNil))) aNil))) aNil))) (mCall F_law_take 1 (rOwn 0 (rCons (mC (.int 2)) rNil)))) aNil))))
      sNext)
    (sSeq (sIf (mTest (mOp oEq (mVar 1) (mC (.str "seat"))))
      (sRet (mOp oIx (mLst (aCons (mC (.str "in")) (aCons (mC (.str "out")) (aCons (mC (.str "called")) (aCons (mC (.str "barred")) aNil))))) (mCall F_law_take 1 (rOwn 0 (rCons (mC (.int 4)) rNil)))))
      sNext)
    (sSeq (sIf (mTest (mOp oEq (mVar 1) (mC (.str "ranks"))))
      (sRet (mCall F_law_rank_rows 1 (rOwn 0 (rCons (mVar 2) rNil))))
      sNext)
    (sSeq (sIf (mTest (mOp oEq (mVar 1) (mC (.str "door"))))
      (sRet (mOp oIx (mLst (aCons (mC (.str "open")) (aCons (mC (.str "asked")) aNil))) (mCall F_law_take 1 (rOwn 0 (rCons (mC (.int 2)) rNil)))))
      sNext)
    (sSeq (sIf (mTest (mOp oEq (mVar 1) (mC (.str "say"))))
      (sSeq (sSet 4 (mC (.str "abz 09!~-:;,=@")))
    (sRet (mJoin (mC (.str "")) (mLc (mRng1 (aCons (mOp oMul (mCall F_law_take 1 (rOwn 0 (rCons (mC (.int 3)) rNil))) (mCall F_law_take 1 (rOwn 0 (rCons (mC (.int 8)) rNil)))) aNil)) (mgName 5) mYes (mOp oIx (mVar 4) (mCall F_law_take 1 (rOwn 0 (rCons (mC (.int 14)) rNil)))) [5]))))
      sNext)
    (sSeq (sIf (mTest (mOp oEq (mVar 1) (mC (.str "strike"))))
      (sRet (mTup (aCons (mOp oIx (mLst (aCons (mC (.str "a")) (aCons (mC (.str "zz")) aNil))) (mCall F_law_take 1 (rOwn 0 (rCons (mC (.int 2)) rNil)))) (aCons (mCall F_law_take 1 (rOwn 0 (rCons (mC (.int 200)) rNil))) aNil))))
      sNext)
    (sRet (mOp oAdd (mC (.int 1)) (mCall F_law_take 1 (rOwn 0 (rCons (mC (.int 2)) rNil)))))))))))
def F_law_content : Fs := Fof 4 2 1 b_law_content
theorem d_law_content {P : Program} {w : World} {K : PySem.W.Frag} {mg : Str → Option Value} {base : Heap} (T : Txt K mg) (Y : TxtX K mg w T) : FnD P w K mg base 3 T.f_law_content T.d_law_content ["_law_pool_here", "_law_sort", "_law_folk_here", "_law_title_here"] 1 F_law_content := by
  have O_law_rank_rows := d_law_rank_rows (P := P) (w := w) (base := base) T Y
  have O_law_take := d_law_take (P := P) (w := w) (base := base) T Y
  refine fn_of T.F_law_content sc_law_content (by decide) rfl rfl fun cdv Ar out s0 H E hG hr => ?_
  exact (sb_cons (ss_if (st_c (c_eq rfl hr.units) (se_var (pv 1)) (SE.V se_str) (nomark _))
      (sb_one (ss_ret (se_tup (sa_cons (se_add rfl se_int (SE.V (se_callD O_law_take rfl hG hr (by decide) (by rfl) T.m_law_take T.F_law_take.kp T.b_law_take (sr_own (pv 0) (sr_cons se_int sr_nil))))) (sa_cons (se_item rfl (Room.u1 hr) (SE.F (se_lst (sa_cons se_non (sa_cons (se_tupZ (sa_cons se_str (sa_cons (se_callD O_law_take rfl hG hr (by decide) (by rfl) T.m_law_take T.F_law_take.kp T.b_law_take (sr_own (pv 0) (sr_cons se_int sr_nil))) sa_nil))) sa_nil)))) (SE.V (se_callD O_law_take rfl hG hr (by decide) (by rfl) T.m_law_take T.F_law_take.kp T.b_law_take (sr_own (pv 0) (sr_cons se_int sr_nil)))) (fun _ _ => rfl)) sa_nil))))) sb_nil)
    (sb_cons (ss_if (st_c (c_eq rfl hr.units) (se_var (pv 1)) (SE.V se_str) (nomark _))
      (sb_one (ss_ret (se_item rfl (Room.u1 hr) (SE.F (se_lst (sa_cons se_str (sa_cons se_str (sa_cons se_str (sa_cons se_str sa_nil)))))) (SE.V (se_callD O_law_take rfl hG hr (by decide) (by rfl) T.m_law_take T.F_law_take.kp T.b_law_take (sr_own (pv 0) (sr_cons se_int sr_nil)))) (fun _ _ => rfl)))) sb_nil)
    (sb_cons (ss_if (st_c (c_eq rfl hr.units) (se_var (pv 1)) (SE.V se_str) (nomark _))
      (sb_one (ss_ret (se_callD O_law_rank_rows rfl hG hr (by decide) (by rfl) T.m_law_rank_rows T.F_law_rank_rows.kp T.b_law_rank_rows (sr_own (pv 0) (sr_cons (se_var (pv 2)) sr_nil))))) sb_nil)
    (sb_cons (ss_if (st_c (c_eq rfl hr.units) (se_var (pv 1)) (SE.V se_str) (nomark _))
      (sb_one (ss_ret (se_item rfl (Room.u1 hr) (SE.F (se_lst (sa_cons se_str (sa_cons se_str sa_nil)))) (SE.V (se_callD O_law_take rfl hG hr (by decide) (by rfl) T.m_law_take T.F_law_take.kp T.b_law_take (sr_own (pv 0) (sr_cons se_int sr_nil)))) (fun _ _ => rfl)))) sb_nil)
    (sb_cons (ss_if (st_c (c_eq rfl hr.units) (se_var (pv 1)) (SE.V se_str) (nomark _))
      (sb_cons (ss_set (i := 4) (by decide) sc_law_content.nd rfl (.inr rfl) se_str)
    (sb_one (ss_ret (se_join rfl se_str (SE.FV (se_lc (own := [("_law_turn", 5)]) (g := (gName 5)) (mg := (mgName 5)) (mt := mYes) (me := (mOp oIx (mVar 4) (mCall F_law_take 1 (rOwn 0 (rCons (mC (.int 14)) rNil))))) rfl sc_law_content.nd (si_range1 (by rfl) T.z_range (sa_cons (se_mul rfl (se_callD O_law_take rfl hG hr (by decide) (by rfl) T.m_law_take T.F_law_take.kp T.b_law_take (sr_own (pv 0) (sr_cons se_int sr_nil))) (SE.V (se_callD O_law_take rfl hG hr (by decide) (by rfl) T.m_law_take T.F_law_take.kp T.b_law_take (sr_own (pv 0) (sr_cons se_int sr_nil))))) sa_nil)) (blkOk_by (own := [("_law_turn", 5)]) (N := ["_law_pool_here", "_law_sort", "_law_folk_here", "_law_title_here", "_law_signs", "_law_turn"]) (sc := defScope s_law_content) (by decide +kernel)) (fun _ _ _ _ _ => (pg_name (i := 5) sc_law_content.nd rfl (Or.inl rfl))) (sg_name (by decide)) (by decide) (fun _ _ _ _ _ => sts_nil) (fun _ _ _ _ _ => (se_item rfl (Room.u1 hr) (se_var (pv 4)) (SE.V (se_callD O_law_take rfl hG hr (by decide) (by rfl) T.m_law_take T.F_law_take.kp T.b_law_take (sr_own (pv 0) (sr_cons se_int sr_nil)))) (fun _ _ => rfl))))))))) sb_nil)
    (sb_cons (ss_if (st_c (c_eq rfl hr.units) (se_var (pv 1)) (SE.V se_str) (nomark _))
      (sb_one (ss_ret (se_tup (sa_cons (se_item rfl (Room.u1 hr) (SE.F (se_lst (sa_cons se_str (sa_cons se_str sa_nil)))) (SE.V (se_callD O_law_take rfl hG hr (by decide) (by rfl) T.m_law_take T.F_law_take.kp T.b_law_take (sr_own (pv 0) (sr_cons se_int sr_nil)))) (fun _ _ => rfl)) (sa_cons (se_callD O_law_take rfl hG hr (by decide) (by rfl) T.m_law_take T.F_law_take.kp T.b_law_take (sr_own (pv 0) (sr_cons se_int sr_nil))) sa_nil))))) sb_nil)
    (sb_one (ss_ret (se_add rfl se_int (SE.V (se_callD O_law_take rfl hG hr (by decide) (by rfl) T.m_law_take T.F_law_take.kp T.b_law_take (sr_own (pv 0) (sr_cons se_int sr_nil)))))))))))))
end K05d

namespace K05d
open PySem PySem.Spec PyProof.Rows L2 Br Dl K05
def b_law_drawn : MS := (sSeq (sSet 1 (mCall F_law_folk 1 (rOwn 0 (rCons (mC (.int 4)) rNil))))
    (sSeq (sSet 2 (mOp oIx (mLst (aCons (mC (.str "begin")) (aCons (mC (.str "seat")) (aCons (mC (.str "ranks")) (aCons (mC (.str "door")) (aCons (mC (.str "say")) (aCons (mC (.str "strike")) (aCons (mC (.str "move")) aNil)))))))) (mCall F_law_take 1 (rOwn 0 (rCons (mC (.int 7)) rNil)))))
    (sSeq (sSet 3 (mCall F_law_title 1 (rOwn 0 (rCons (mOp oIx (mSplit (mOp oIx (mVar 1) (mC (.int 0))) (mC (.str "@"))) (mC (.int 1))) rNil))))
    (sSeq (sSet 4 (mOp oIx (mLst (aCons (mC (.str "")) (aCons (mOp oIx (mVar 1) (mCall F_law_take 1 (rOwn 0 (rCons (mC (.int 4)) rNil)))) aNil))) (mUn oInt (mOp oEq (mVar 2) (mC (.str "seat"))))))
    (sSeq (sSet 5 (mCall F_law_content 1 (rOwn 0 (rCons (mVar 2) (rCons (mVar 1) (rCons (mVar 3) rNil))))))
    (sSeq (sIf (mTest (mOp oEq (mVar 2) (mC (.str "begin"))))
      (sRet (mTup (aCons (mVar 3) (aCons (mVar 2) (aCons (mOp oIx (mVar 1) (mC (.int 0))) (aCons (mVar 4) (aCons (mVar 5) (aCons (mTupZ aNil) (aCons (mTupZ aNil) aNil)))))))))
      sNext)
    (sRet (mTup (aCons (mVar 3) (aCons (mVar 2) (aCons (mOp oIx (mVar 1) (mC (.int 0))) (aCons (mVar 4) (aCons (mVar 5) (aCons (mCall F_law_titles 1 (rOwn 0 (rCons (mVar 3) (rCons (mC (.int 6)) rNil)))) (aCons (mCall F_law_titles 1 (rOwn 0 (rCons (mVar 3) (rCons (mC (.int 4)) rNil)))) aNil)))))))))))))))
def F_law_drawn : Fs := Fof 1 5 1 b_law_drawn
theorem d_law_drawn {P : Program} {w : World} {K : PySem.W.Frag} {mg : Str → Option Value} {base : Heap} (T : Txt K mg) (Y : TxtX K mg w T) : FnD P w K mg base 4 T.f_law_drawn T.d_law_drawn ["_law_pool_here"] 1 F_law_drawn := by
  have O_law_content := d_law_content (P := P) (w := w) (base := base) T Y
  have O_law_folk := d_law_folk (P := P) (w := w) (base := base) T Y
  have O_law_take := d_law_take (P := P) (w := w) (base := base) T Y
  have O_law_title := d_law_title (P := P) (w := w) (base := base) T Y
  have O_law_titles := d_law_titles (P := P) (w := w) (base := base) T Y
  refine fn_of T.F_law_drawn sc_law_drawn (by decide) rfl rfl fun cdv Ar out s0 H E hG hr => ?_
  exact (sb_cons (ss_set (i := 1) (by decide) sc_law_drawn.nd rfl (.inl rfl) (se_callD O_law_folk rfl hG hr (by decide) (by rfl) T.m_law_folk T.F_law_folk.kp T.b_law_folk (sr_own (pv 0) (sr_cons se_int sr_nil))))
    (sb_cons (ss_set (i := 2) (by decide) sc_law_drawn.nd rfl (.inl rfl) (se_item rfl (Room.u1 hr) (SE.F (se_lst (sa_cons se_str (sa_cons se_str (sa_cons se_str (sa_cons se_str (sa_cons se_str (sa_cons se_str (sa_cons se_str sa_nil))))))))) (SE.V (se_callD O_law_take rfl hG hr (by decide) (by rfl) T.m_law_take T.F_law_take.kp T.b_law_take (sr_own (pv 0) (sr_cons se_int sr_nil)))) (fun _ _ => rfl)))
    (sb_cons (ss_set (i := 3) (by decide) sc_law_drawn.nd rfl (.inl rfl) (se_callD O_law_title rfl hG hr (by decide) (by rfl) T.m_law_title T.F_law_title.kp T.b_law_title (sr_own (pv 0) (sr_cons (se_item rfl (Room.u1 hr) (SE.F (se_split rfl (se_item rfl (Room.u1 hr) (se_var (pv 1)) (SE.V se_int) (fun _ _ => rfl)) se_str)) (SE.V se_int) (fun _ _ => rfl)) sr_nil))))
    (sb_cons (ss_set (i := 4) (by decide) sc_law_drawn.nd rfl (.inl rfl) (se_item rfl (Room.u1 hr) (SE.F (se_lst (sa_cons se_str (sa_cons (se_item rfl (Room.u1 hr) (se_var (pv 1)) (SE.V (se_callD O_law_take rfl hG hr (by decide) (by rfl) T.m_law_take T.F_law_take.kp T.b_law_take (sr_own (pv 0) (sr_cons se_int sr_nil)))) (fun _ _ => rfl)) sa_nil)))) (SE.V (se_int_of (by rfl) T.z_int (SE.V (se_c (c_eq rfl hr.units) (se_var (pv 2)) (SE.V se_str) (nomark _))))) (fun _ _ => rfl)))
    (sb_cons (ss_set (i := 5) (by decide) sc_law_drawn.nd rfl (.inl rfl) (se_callD O_law_content rfl hG hr (by decide) (by rfl) T.m_law_content T.F_law_content.kp T.b_law_content (sr_own (pv 0) (sr_cons (se_var (pv 2)) (sr_cons (se_var (pv 1)) (sr_cons (se_var (pv 3)) sr_nil))))))
    (sb_cons (ss_if (st_c (c_eq rfl hr.units) (se_var (pv 2)) (SE.V se_str) (nomark _))
      (sb_one (ss_ret (se_tup (sa_cons (se_var (pv 3)) (sa_cons (se_var (pv 2)) (sa_cons (se_item rfl (Room.u1 hr) (se_var (pv 1)) (SE.V se_int) (fun _ _ => rfl)) (sa_cons (se_var (pv 4)) (sa_cons (se_var (pv 5)) (sa_cons (se_tupZ sa_nil) (sa_cons (se_tupZ sa_nil) sa_nil)))))))))) sb_nil)
    (sb_one (ss_ret (se_tup (sa_cons (se_var (pv 3)) (sa_cons (se_var (pv 2)) (sa_cons (se_item rfl (Room.u1 hr) (se_var (pv 1)) (SE.V se_int) (fun _ _ => rfl)) (sa_cons (se_var (pv 4)) (sa_cons (se_var (pv 5)) (sa_cons (se_callD O_law_titles rfl hG hr (by decide) (by rfl) T.m_law_titles T.F_law_titles.kp T.b_law_titles (sr_own (pv 0) (sr_cons (se_var (pv 3)) (sr_cons se_int sr_nil)))) (sa_cons (se_callD O_law_titles rfl hG hr (by decide) (by rfl) T.m_law_titles T.F_law_titles.kp T.b_law_titles (sr_own (pv 0) (sr_cons (se_var (pv 3)) (sr_cons se_int sr_nil)))) sa_nil))))))))))))))))
end K05d

namespace K05d
open PySem PySem.Spec PyProof.Rows L2 Br Dl K05
def b_law_bad : MS := (sSeq (sIf (mTest (mOp oEq (mVar 2) (mC (.int 3))))
      (sRet (mOp oIx (mLst (aCons (mC .none) (aCons (mC (.str "x")) (aCons (mC (.str "out")) (aCons (mC (.int 5)) (aCons (mOp oIx (mVar 1) (mC (.int 1))) aNil)))))) (mCall F_law_take 1 (rOwn 0 (rCons (mC (.int 5)) rNil)))))
      sNext)
    (sSeq (sIf (mTest (mOp oEq (mVar 2) (mC (.int 4))))
      (sRet (mOp oIx (mLst (aCons (mC .none) (aCons (mC (.int 5)) (aCons (mC (.str "x
")) (aCons (mTup (aCons (mC (.int 1)) aNil)) (aCons (mLst aNil) (aCons (mTup (aCons (mC (.str "A")) (aCons (mC (.int 1)) aNil))) aNil))))))) (mCall F_law_take 1 (rOwn 0 (rCons (mC (.int 6)) rNil)))))
      sNext)
    (sSeq (sIf (mTest (mOp oGt (mVar 2) (mC (.int 4))))
      (sRet (mOp oIx (mLst (aCons (mC .none) (aCons (mLst (aCons (mTup (aCons (mC (.str "a")) (aCons (mC (.int 1)) aNil))) aNil)) (aCons (mTup (aCons (mTupZ (aCons (mC (.str "A")) (aCons (mC (.int 1)) aNil))) aNil)) (aCons (mTup (aCons (mOp oIx (mVar 1) (mC (.int 0))) aNil)) (aCons (mTup (aCons (mTupZ (aCons (mC (.str "b")) (aCons (mC (.int 1)) aNil))) (aCons (mTupZ (aCons (mC (.str "a")) (aCons (mC (.int 1)) aNil))) aNil))) (aCons (mTup (aCons (mC (.int 1)) aNil)) aNil))))))) (mCall F_law_take 1 (rOwn 0 (rCons (mC (.int 6)) rNil)))))
      sNext)
    (sRet (mOp oIx (mLst (aCons (mC .none) (aCons (mC (.int 5)) (aCons (mC (.str "A")) (aCons (mTup (aCons (mC (.str "a")) aNil)) (aCons (mLst aNil) (aCons (mC (.str "say ")) aNil))))))) (mCall F_law_take 1 (rOwn 0 (rCons (mC (.int 6)) rNil))))))))
def F_law_bad : Fs := Fof 3 0 1 b_law_bad
theorem d_law_bad {P : Program} {w : World} {K : PySem.W.Frag} {mg : Str → Option Value} {base : Heap} (T : Txt K mg) (Y : TxtX K mg w T) : FnD P w K mg base 2 T.f_law_bad T.d_law_bad ["_law_pool_here", "_law_item", "_law_at"] 1 F_law_bad := by
  have O_law_take := d_law_take (P := P) (w := w) (base := base) T Y
  refine fn_of T.F_law_bad sc_law_bad (by decide) rfl rfl fun cdv Ar out s0 H E hG hr => ?_
  exact (sb_cons (ss_if (st_c (c_eq rfl hr.units) (se_var (pv 2)) (SE.V se_int) (nomark _))
      (sb_one (ss_ret (se_item rfl (Room.u1 hr) (SE.F (se_lst (sa_cons se_non (sa_cons se_str (sa_cons se_str (sa_cons se_int (sa_cons (se_item rfl (Room.u1 hr) (se_var (pv 1)) (SE.V se_int) (fun _ _ => rfl)) sa_nil))))))) (SE.V (se_callD O_law_take rfl hG hr (by decide) (by rfl) T.m_law_take T.F_law_take.kp T.b_law_take (sr_own (pv 0) (sr_cons se_int sr_nil)))) (fun _ _ => rfl)))) sb_nil)
    (sb_cons (ss_if (st_c (c_eq rfl hr.units) (se_var (pv 2)) (SE.V se_int) (nomark _))
      (sb_one (ss_ret (se_item rfl (Room.u1 hr) (SE.F (se_lst (sa_cons se_non (sa_cons se_int (sa_cons se_str (sa_cons (se_tup (sa_cons se_int sa_nil)) (sa_cons (SE.F (se_lst sa_nil)) (sa_cons (se_tup (sa_cons se_str (sa_cons se_int sa_nil))) sa_nil)))))))) (SE.V (se_callD O_law_take rfl hG hr (by decide) (by rfl) T.m_law_take T.F_law_take.kp T.b_law_take (sr_own (pv 0) (sr_cons se_int sr_nil)))) (fun _ _ => rfl)))) sb_nil)
    (sb_cons (ss_if (st_c (c_gt rfl) (se_var (pv 2)) (SE.V se_int) (nomark _))
      (sb_one (ss_ret (se_item rfl (Room.u1 hr) (SE.F (se_lst (sa_cons se_non (sa_cons (SE.F (se_lst (sa_cons (se_tup (sa_cons se_str (sa_cons se_int sa_nil))) sa_nil))) (sa_cons (se_tup (sa_cons (se_tupZ (sa_cons se_str (sa_cons se_int sa_nil))) sa_nil)) (sa_cons (se_tup (sa_cons (se_item rfl (Room.u1 hr) (se_var (pv 1)) (SE.V se_int) (fun _ _ => rfl)) sa_nil)) (sa_cons (se_tup (sa_cons (se_tupZ (sa_cons se_str (sa_cons se_int sa_nil))) (sa_cons (se_tupZ (sa_cons se_str (sa_cons se_int sa_nil))) sa_nil))) (sa_cons (se_tup (sa_cons se_int sa_nil)) sa_nil)))))))) (SE.V (se_callD O_law_take rfl hG hr (by decide) (by rfl) T.m_law_take T.F_law_take.kp T.b_law_take (sr_own (pv 0) (sr_cons se_int sr_nil)))) (fun _ _ => rfl)))) sb_nil)
    (sb_one (ss_ret (se_item rfl (Room.u1 hr) (SE.F (se_lst (sa_cons se_non (sa_cons se_int (sa_cons se_str (sa_cons (se_tup (sa_cons se_str sa_nil)) (sa_cons (SE.F (se_lst sa_nil)) (sa_cons se_str sa_nil)))))))) (SE.V (se_callD O_law_take rfl hG hr (by decide) (by rfl) T.m_law_take T.F_law_take.kp T.b_law_take (sr_own (pv 0) (sr_cons se_int sr_nil)))) (fun _ _ => rfl)))))))
def b_law_right : MS := (sSeq (sSet 2 (mLst (aCons (mC (.str "name")) (aCons (mC (.str "kind")) (aCons (mC (.str "who")) (aCons (mC (.str "about")) (aCons (mC (.str "body")) (aCons (mC (.str "after")) (aCons (mC (.str "leave")) aNil)))))))))
    (sSeq (sSetO 3 (mUn oLstOf (mVar 1)))
    (sSeq (sSet 4 (mC (.int 7)))
    (sSeq (sFor (mRng1 (aCons (mOp oAdd (mC (.int 2)) (mCall F_law_take 1 (rOwn 0 (rCons (mC (.int 2)) rNil)))) aNil)) (mgName 5)
      (sSeq (sSet 6 (mCall F_law_take 1 (rOwn 0 (rCons (mC (.int 7)) rNil))))
    (sSeq (sPut 3 (mCall F_law_bad 1 (rOwn 0 (rCons (mVar 1) (rCons (mVar 6) rNil)))) (mVar 6))
    (sSet 4 (mOn oMin (aCons (mVar 4) (aCons (mVar 6) aNil)))))))
    (sSeq (sIf (mTest (mOp oNe (mCall F_law_told 0 (rCons (mUn oTupOf (mOwn 3)) rNil)) (mOp oIx (mVar 2) (mVar 4))))
      (sRet (mC (.bool false)))
      sNext)
    (sSeq (sSet 7 (mOp oAdd (mOp oAdd (mSlice (mVar 1) pNo (pSome (mC (.int 2)))) (mTup (aCons (mOp oAdd (mOp oIx (mVar 1) (mC (.int 2))) (mC (.str "q"))) aNil))) (mSlice (mVar 1) (pSome (mC (.int 3))) pNo)))
    (sSeq (sIf (mAnd (mTest (mOp oLt (mUn oLen (mOp oIx (mOp oIx (mVar 1) (mC (.int 0))) (mC (.int 0)))) (mC (.int 8)))) (mTest (mOp oNe (mCall F_law_told 0 (rCons (mVar 7) rNil)) (mC (.str "house")))))
      (sRet (mC (.bool false)))
      sNext)
    (sSeq (sSet 6 (mOp oAdd (mC (.int 3)) (mCall F_law_take 1 (rOwn 0 (rCons (mC (.int 4)) rNil)))))
    (sSeq (sSetO 3 (mUn oLstOf (mVar 7)))
    (sSeq (sPut 3 (mCall F_law_bad 1 (rOwn 0 (rCons (mVar 1) (rCons (mVar 6) rNil)))) (mVar 6))
    (sRet (mOp oEq (mCall F_law_told 0 (rCons (mUn oTupOf (mOwn 3)) rNil)) (mOp oIx (mVar 2) (mVar 6))))))))))))))
def F_law_right : Fs := Fof 2 6 1 b_law_right
theorem d_law_right {P : Program} {w : World} {K : PySem.W.Frag} {mg : Str → Option Value} {base : Heap} (T : Txt K mg) (Y : TxtX K mg w T) : FnD P w K mg base 10 T.f_law_right T.d_law_right ["_law_pool_here", "_law_item"] 1 F_law_right := by
  have O_law_bad := d_law_bad (P := P) (w := w) (base := base) T Y
  have O_law_take := d_law_take (P := P) (w := w) (base := base) T Y
  have O_law_told := d_law_told (P := P) (w := w) (base := base) T Y
  refine fn_of T.F_law_right sc_law_right (by decide) rfl rfl fun cdv Ar out s0 H E hG hr => ?_
  exact (sb_cons (ss_set (i := 2) (by decide) sc_law_right.nd rfl (.inl rfl) (SE.F (se_lst (sa_cons se_str (sa_cons se_str (sa_cons se_str (sa_cons se_str (sa_cons se_str (sa_cons se_str (sa_cons se_str sa_nil))))))))))
    (sb_cons (ss_setO (i := 3) (by decide) sc_law_right.nd rfl (.inl rfl) (se_list_of rfl (by rfl) T.z_list (SE.V (se_var (pv 1)))))
    (sb_cons (ss_set (i := 4) (by decide) sc_law_right.nd rfl (.inl rfl) se_int)
    (sb_cons (ss_for (g := (gName 5)) (mg := (mgName 5)) PassesOwn.never rfl (si_range1 (by rfl) T.z_range (sa_cons (se_add rfl se_int (SE.V (se_callD O_law_take rfl hG hr (by decide) (by rfl) T.m_law_take T.F_law_take.kp T.b_law_take (sr_own (pv 0) (sr_cons se_int sr_nil))))) sa_nil)) (pg_name (i := 5) sc_law_right.nd rfl (.inl rfl)) (sg_name (by decide))
      (sb_cons (ss_set (i := 6) (by decide) sc_law_right.nd rfl (.inl rfl) (se_callD O_law_take rfl hG hr (by decide) (by rfl) T.m_law_take T.F_law_take.kp T.b_law_take (sr_own (pv 0) (sr_cons se_int sr_nil))))
    (sb_cons (ss_put (i := 3) rfl hr (pv 3) (se_callD O_law_bad rfl hG hr (by decide) (by rfl) T.m_law_bad T.F_law_bad.kp T.b_law_bad (sr_own (pv 0) (sr_cons (se_var (pv 1)) (sr_cons (se_var (pv 6)) sr_nil)))) (se_var (pv 6)))
    (sb_one (ss_set (i := 4) (by decide) sc_law_right.nd rfl (.inl rfl) (se_min rfl rfl (by rfl) T.z_min (sa_cons (se_var (pv 4)) (sa_cons (se_var (pv 6)) sa_nil))))))))
    (sb_cons (ss_if (st_c (c_ne rfl hr.units) (se_callD O_law_told rfl hG hr (by decide) (by rfl) T.m_law_told T.F_law_told.kp T.b_law_told (sr_cons (se_tuple_of rfl (by rfl) T.z_tuple (se_own (pv 3))) sr_nil)) (SE.V (se_item rfl (Room.u1 hr) (se_var (pv 2)) (SE.V (se_var (pv 4))) (fun _ _ => rfl))) (nomark _))
      (sb_one (ss_ret se_bl)) sb_nil)
    (sb_cons (ss_set (i := 7) (by decide) sc_law_right.nd rfl (.inl rfl) (se_add rfl (se_add rfl (se_slice rfl (se_var (pv 1)) so_none (so_some se_int)) (SE.V (se_tup (sa_cons (se_add rfl (se_item rfl (Room.u1 hr) (se_var (pv 1)) (SE.V se_int) (fun _ _ => rfl)) (SE.V se_str)) sa_nil)))) (SE.V (se_slice rfl (se_var (pv 1)) (so_some se_int) so_none))))
    (sb_cons (ss_if (SW.st (sw_and (st_c (c_lt rfl) (se_len rfl (by rfl) T.z_len (SE.V (se_item rfl (Room.u1 hr) (se_item rfl (Room.u1 hr) (se_var (pv 1)) (SE.V se_int) (fun _ _ => rfl)) (SE.V se_int) (fun _ _ => rfl)))) (SE.V se_int) (nomark _)) (sw_and1 (st_c (c_ne rfl hr.units) (se_callD O_law_told rfl hG hr (by decide) (by rfl) T.m_law_told T.F_law_told.kp T.b_law_told (sr_cons (se_var (pv 7)) sr_nil)) (SE.V se_str) (nomark _)))))
      (sb_one (ss_ret se_bl)) sb_nil)
    (sb_cons (ss_set (i := 6) (by decide) sc_law_right.nd rfl (.inl rfl) (se_add rfl se_int (SE.V (se_callD O_law_take rfl hG hr (by decide) (by rfl) T.m_law_take T.F_law_take.kp T.b_law_take (sr_own (pv 0) (sr_cons se_int sr_nil))))))
    (sb_cons (ss_setO (i := 3) (by decide) sc_law_right.nd rfl (.inl rfl) (se_list_of rfl (by rfl) T.z_list (SE.V (se_var (pv 7)))))
    (sb_cons (ss_put (i := 3) rfl hr (pv 3) (se_callD O_law_bad rfl hG hr (by decide) (by rfl) T.m_law_bad T.F_law_bad.kp T.b_law_bad (sr_own (pv 0) (sr_cons (se_var (pv 1)) (sr_cons (se_var (pv 6)) sr_nil)))) (se_var (pv 6)))
    (sb_one (ss_ret (se_c (c_eq rfl hr.units) (se_callD O_law_told rfl hG hr (by decide) (by rfl) T.m_law_told T.F_law_told.kp T.b_law_told (sr_cons (se_tuple_of rfl (by rfl) T.z_tuple (se_own (pv 3))) sr_nil)) (SE.V (se_item rfl (Room.u1 hr) (se_var (pv 2)) (SE.V (se_var (pv 6))) (fun _ _ => rfl))) (nomark _))))))))))))))
end K05d

namespace K05d
open PySem PySem.Spec PyProof.Rows L2 Br Dl K05
def b_law : MS := (sSeq (sIf (mTest (mOp oNe (mC k_KINDS) (mTup (aCons (mC (.str "begin")) (aCons (mC (.str "seat")) (aCons (mC (.str "ranks")) (aCons (mC (.str "door")) (aCons (mC (.str "say")) (aCons (mC (.str "strike")) (aCons (mC (.str "move")) aNil))))))))))
      (sRet (mC (.bool false)))
      sNext)
    (sSeq (sIf (mTest (mOp oNe (mC k_WORDS) (mTup (aCons (mC (.str "bar")) (aCons (mC (.str "call")) (aCons (mC (.str "door")) (aCons (mC (.str "move")) (aCons (mC (.str "out")) (aCons (mC (.str "ranks")) (aCons (mC (.str "say")) (aCons (mC (.str "strike")) aNil)))))))))))
      (sRet (mC (.bool false)))
      sNext)
    (sSeq (sFor (mRng1 (aCons (mOn oMax (aCons (mC (.int 1)) (aCons (mOn oMin (aCons (mUn oLen (mVar 0)) (aCons (mC (.int 16)) aNil))) aNil))) aNil)) (mgName 1)
      (sSeq (sSetO 2 (mCallF F_law_pool (aCons (mVar 0) (aCons (mVar 1) aNil))))
    (sSeq (sSet 3 (mCall F_law_drawn 1 (rOwn 2 rNil)))
    (sSeq (sSet 4 (mC .none))
    (sSeq (sIf (mTest (mOp (oIn true) (mOp oIx (mVar 3) (mC (.int 1))) (mLst (aCons (mC (.str "say")) (aCons (mC (.str "strike")) aNil)))))
      (sSet 4 (mTup (aCons (mOp oIx (mVar 3) (mC (.int 1))) (aCons (mOp oIx (mVar 3) (mC (.int 3))) aNil))))
      sNext)
    (sSeq (sIf (mTest (mOp oNe (mUn oReprL (mLst (aCons (mCall F_key_of 0 (rCons (mVar 3) rNil)) (aCons (mCallK F_key_of [0] (aCons (mVar 3) aNil)) aNil)))) (mUn oReprL (mLst (aCons (mVar 4) (aCons (mVar 4) aNil))))))
      (sRet (mC (.bool false)))
      sNext)
    (sFor (mRng1 (aCons (mC (.int 5)) aNil)) (mgName 5)
      (sIf (mNot (mTest (mCall F_law_right 1 (rOwn 2 (rCons (mVar 3) rNil)))))
      (sRet (mC (.bool false)))
      sNext))))))))
    (sRet (mC (.bool true))))))
def F_law : Fs := Fof 1 5 0 b_law
theorem d_law {P : Program} {w : World} {K : PySem.W.Frag} {mg : Str → Option Value} {base : Heap} (T : Txt K mg) (Y : TxtX K mg w T) : FnD P w K mg base 11 T.f_law T.d_law ["_law_script"] 0 F_law := by
  have O_law_drawn := d_law_drawn (P := P) (w := w) (base := base) T Y
  have O_law_pool := d_law_pool (P := P) (w := w) (base := base) T Y
  have O_law_right := d_law_right (P := P) (w := w) (base := base) T Y
  have O_key_of := d_key_of (P := P) (w := w) (base := base) T Y
  refine fn_of T.F_law sc_law (by decide) rfl rfl fun cdv Ar out s0 H E hG hr => ?_
  exact (sb_cons (ss_if (st_c (c_ne rfl hr.units) (se_glob (v := .ref Y.a_KINDS) (by rfl) Y.m_KINDS rfl Y.r_KINDS) (SE.V (se_tup (sa_cons se_str (sa_cons se_str (sa_cons se_str (sa_cons se_str (sa_cons se_str (sa_cons se_str (sa_cons se_str sa_nil))))))))) (nomark _))
      (sb_one (ss_ret se_bl)) sb_nil)
    (sb_cons (ss_if (st_c (c_ne rfl hr.units) (se_glob (v := .ref Y.a_WORDS) (by rfl) Y.m_WORDS rfl Y.r_WORDS) (SE.V (se_tup (sa_cons se_str (sa_cons se_str (sa_cons se_str (sa_cons se_str (sa_cons se_str (sa_cons se_str (sa_cons se_str (sa_cons se_str sa_nil)))))))))) (nomark _))
      (sb_one (ss_ret se_bl)) sb_nil)
    (sb_cons (ss_for (g := (gName 1)) (mg := (mgName 1)) PassesOwn.never rfl (si_range1 (by rfl) T.z_range (sa_cons (se_max rfl rfl (by rfl) T.z_max (sa_cons se_int (sa_cons (se_min rfl rfl (by rfl) T.z_min (sa_cons (se_len rfl (by rfl) T.z_len (SE.V (se_var (pv 0)))) (sa_cons se_int sa_nil))) sa_nil))) sa_nil)) (pg_name (i := 1) sc_law.nd rfl (.inl rfl)) (sg_name (by decide))
      (sb_cons (ss_setO (i := 2) (by decide) sc_law.nd rfl (.inl rfl) (se_callF O_law_pool rfl hG hr (by decide) (by rfl) T.m_law_pool T.F_law_pool.kp T.b_law_pool (sa_cons (se_var (pv 0)) (sa_cons (se_var (pv 1)) sa_nil))))
    (sb_cons (ss_set (i := 3) (by decide) sc_law.nd rfl (.inl rfl) (se_callD O_law_drawn rfl hG hr (by decide) (by rfl) T.m_law_drawn T.F_law_drawn.kp T.b_law_drawn (sr_own (pv 2) sr_nil)))
    (sb_cons (ss_set (i := 4) (by decide) sc_law.nd rfl (.inl rfl) se_non)
    (sb_cons (ss_if (st_c (c_notIn rfl (Room.u65 hr)) (se_item rfl (Room.u1 hr) (se_var (pv 3)) (SE.V se_int) (fun _ _ => rfl)) (SE.FV (se_lst (sa_cons se_str (sa_cons se_str sa_nil)))) (by rfl))
      (sb_one (ss_set (i := 4) (by decide) sc_law.nd rfl (.inl rfl) (se_tup (sa_cons (se_item rfl (Room.u1 hr) (se_var (pv 3)) (SE.V se_int) (fun _ _ => rfl)) (sa_cons (se_item rfl (Room.u1 hr) (se_var (pv 3)) (SE.V se_int) (fun _ _ => rfl)) sa_nil))))) sb_nil)
    (sb_cons (ss_if (st_c (c_ne rfl hr.units) (se_reprL rfl hG hr (by rfl) T.z_repr (SE.FV (se_lst (sa_cons (se_callD O_key_of rfl hG hr (by decide) (by rfl) T.m_key_of T.F_key_of.kp T.b_key_of (sr_cons (se_var (pv 3)) sr_nil)) (sa_cons (se_callK (ks := ["deed"]) (is := [0]) O_key_of rfl hG hr (by decide) (by rfl) T.m_key_of T.F_key_of.kp Y.kx_0 rfl (sk_cons (se_var (pv 3)) sk_nil)) sa_nil))))) (SE.V (se_reprL rfl hG hr (by rfl) T.z_repr (SE.FV (se_lst (sa_cons (se_var (pv 4)) (sa_cons (se_var (pv 4)) sa_nil)))))) (nomark _))
      (sb_one (ss_ret se_bl)) sb_nil)
    (sb_one (ss_for (g := (gName 5)) (mg := (mgName 5)) PassesOwn.never rfl (si_range1 (by rfl) T.z_range (sa_cons se_int sa_nil)) (pg_name (i := 5) sc_law.nd rfl (.inl rfl)) (sg_name (by decide))
      (sb_one (ss_if (st_not (st_val (se_callD O_law_right rfl hG hr (by decide) (by rfl) T.m_law_right T.F_law_right.kp T.b_law_right (sr_own (pv 2) (sr_cons (se_var (pv 3)) sr_nil)))))
      (sb_one (ss_ret se_bl)) sb_nil))))))))))
    (sb_one (ss_ret se_bl)))))
end K05d

namespace K05d
open PySem PySem.Spec PyProof.Rows L2 Br Dl K05
/-- a pool -/
def PL (c : Cell) : Prop := ∃ a b : Int, c = .own (.list [.int a, .int b]) ∧ 0 ≤ a ∧ 0 ≤ b ∧ b < 2147483647
theorem take_s {c : Cell} {n : Int} {k : D → List Cell → Prop} (hc : PL c) (hn : 0 < n) (hn2 : n < 1073741824)
    (h : ∀ (t : Int) (c' : Cell), 0 ≤ t → t < n → PL c' → k (.int t) [c']) : F_law_take [c, .fro (.int n)] k := by
  obtain ⟨a, b, rfl, ha, hb, hb2⟩ := hc
  refine Fof.mk rfl ?_
  by_cases h0 : 0 < a
  · simp [b_law_take, sSeq, sIf, mTest, mOp, mOpO, mOwn, mVar, oIx, mC, oCmp, atI, ixN, sSet, sPut, sRet, oMod, oFdiv, oPut, oAdd, oMul, h0, sNext, hn, hn2]
    exact h _ _ (Int.emod_nonneg _ (by omega)) (Int.emod_lt_of_pos _ hn) ⟨_, _, rfl, Int.ediv_nonneg ha (by omega), hb, hb2⟩
  · have n0 : 0 ≤ (b * 69621 + 7) % 2147483647 := Int.emod_nonneg _ (by decide)
    have n1 : (b * 69621 + 7) % 2147483647 < 2147483647 := Int.emod_lt_of_pos _ (by decide)
    have z1 : -18446744073709551616 < b := by omega
    have z2 : b < 18446744073709551616 := by omega
    have z3 : -18446744073709551616 < (b * 69621 + 7) % 2147483647 := by omega
    have z4 : (b * 69621 + 7) % 2147483647 < 18446744073709551616 := by omega
    simp [b_law_take, sSeq, sIf, mTest, mOp, mOpO, mOwn, mVar, oIx, mC, oCmp, atI, ixN, sSet, sPut, sRet, oMod, oFdiv, oPut, oAdd, oMul, h0, sNext, hn, hn2, z1, z2, z3, z4]
    exact h _ _ (Int.emod_nonneg _ (by omega)) (Int.emod_lt_of_pos _ hn) ⟨_, _, rfl, ha, n0, n1⟩
theorem pool_s {ns : List Int} {i : Int} (h0 : 0 ≤ i) (h1 : i < 1000) {k : D → Prop} (h : ∀ a b : Int, 0 ≤ a → 0 ≤ b → b < 2147483647 → k (.list [.int a, .int b])) : F_law_pool [.scr ns, .int i] k := by
  refine ⟨rfl, k, fun _ q => q, ?_⟩
  have rest : ∀ (x : Int), (sSeqF (sSet 3 (mOn oMax (aCons (mVar 2) (aCons (mOp oSub (mUn oNeg (mC (.int 1))) (mVar 2)) aNil))))
    (sSeqF (sSet 4 (mOp oMod (mOp oMul (mOp oAdd (mOp oAdd (mOp oAdd (mOp oMod (mVar 3) (mC (.int 2147483629))) (mOp oMul (mOp oMul (mC (.int 7919)) (mVar 1)) (mVar 1))) (mOp oMul (mC (.int 31)) (mVar 1))) (mC (.int 17))) (mC (.int 48271))) (mC (.int 2147483647))))
    (sRet (mLst (aCons (mOp oMul (mVar 3) (mUn oInt (mOp oGe (mVar 3) (mOp oPow (mC (.int 10)) (mC (.int 18)))))) (aCons (mVar 4) aNil)))))) { nx := fun _ => False, rt := fun d _ => k d } [.fro (.scr ns), .fro (.int i), .fro (.int x), .un, .un] := by
    intro x
    have s2 : 2 ≤ sizeLine := by decide
    have a1 : ∀ y : Int, 0 ≤ y % 2147483629 := fun y => Int.emod_nonneg _ (by decide)
    generalize hs : (if -1 - x > x then -1 - x else x) = sz
    have s0 : 0 ≤ sz := by rw [← hs]; split <;> omega
    have e1 : -18446744073709551616 < i := by omega
    have e2 : i < 18446744073709551616 := by omega
    simp [sSeqF, sSet, mOn, oMax, aCons, aNil, mVar, mOp, mUn, mC, oSub, oNeg, oMod, oMul, oAdd, sRet, mLst, oInt, oCmp, oPow, s2, e1, e2]
    simp [hs]
    refine ⟨.inr (by split <;> omega), h _ _ (Int.mul_nonneg s0 (by split <;> omega)) (Int.emod_nonneg _ (by decide)) (Int.emod_lt_of_pos _ (by decide))⟩
  by_cases c : i < ns.length
  · have hl : i.toNat < ns.length := by omega
    have ha : atI ns i = some (ns[i.toNat]'hl) := by
      have := atI_nat (xs := ns) (j := i.toNat) (List.getElem?_eq_getElem hl)
      rwa [Int.toNat_of_nonneg h0] at this
    show if decide (i < ns.length) = true then (match atI ns i with | some n => _ | none => False) else _
    rw [if_pos (decide_eq_true c), ha]
    exact rest _
  · show if decide (i < ns.length) = true then _ else _
    rw [if_neg (by rw [decide_eq_false c]; decide)]
    exact rest _
end K05d

namespace K05d
open PySem PySem.Spec PyProof.Rows L2 Br Dl K05
/-- behind the argument of a call that draws from slot j -/
def Aft (F : Fs) (j : Nat) (k : D → Cs → Prop) (d : D) (ρ : Cs) : Prop := (slotsOf [.inl j, .inr d]).Nodup ∧ slotsOf (([.inl j, .inr d] : List Ar).drop 1) = [] ∧ match cellsOf ρ [.inl j, .inr d] with
  | some cs => F cs fun r cs' => k r (putBack ρ [.inl j, .inr d] cs')
  | none => False
theorem aft {F : Fs} {j : Nat} {k : D → Cs → Prop} {d x : D} {ρ : Cs} (hj : ρ[j]? = some (.own x)) (h : F [.own x, .fro d] fun r cs' => k r (putBack ρ [.inl j, .inr d] cs')) : Aft F j k d ρ := by
  refine ⟨by simp [slotsOf], rfl, ?_⟩
  have e : cellsOf ρ [.inl j, .inr d] = some [.own x, .fro d] := by simp [cellsOf, hj]
  rw [e]
  exact h
theorem call_j {F : Fs} {j : Nat} {m : ME} {k : D → Cs → Prop} {x : D} {ρ : Cs} (hj : ρ[j]? = some (.own x)) (h : m ρ (Aft F j k)) : mCall F 1 (rOwn j (rCons m rNil)) ρ k := by
  show mOwn j ρ fun _ _ => m ρ (Aft F j k)
  unfold mOwn
  rw [hj]
  exact h
theorem call_take {j : Nat} {m : ME} {n : Int} {k : D → Cs → Prop} {c : Cell} {ρ : Cs} (hj : ρ[j]? = some c) (p : PL c) (hm : ∀ k' : D → Cs → Prop, k' (.int n) ρ → m ρ k') (hn : 0 < n) (hn2 : n < 1073741824)
    (h : ∀ (t : Int) (c' : Cell), 0 ≤ t → t < n → PL c' → k (.int t) (ρ.set j c')) : mCall F_law_take 1 (rOwn j (rCons m rNil)) ρ k := by
  obtain ⟨a, b, rfl, p'⟩ := id p
  exact call_j hj (hm _ (aft hj (take_s p hn hn2 fun t c' h0 h1 hc => h t c' h0 h1 hc)))
def low (z : Str) : Prop := ∀ c ∈ z.cps.toList, 97 ≤ c ∧ c ≤ 122
theorem abc_at {r : Int} (h0 : 0 ≤ r) (h1 : r < 26) : ∃ c, atI ("abcdefghijklmnopqrstuvwxyz" : Str).cps.toList r = some c ∧ (97 ≤ c ∧ c ≤ 122) := by
  have hl : ("abcdefghijklmnopqrstuvwxyz" : Str).cps.toList.length = 26 := by decide +kernel
  have e : ((r.toNat : Nat) : Int) = r := Int.toNat_of_nonneg h0
  refine ⟨("abcdefghijklmnopqrstuvwxyz" : Str).cps.toList[r.toNat]'(by omega), ?_⟩
  have q : atI ("abcdefghijklmnopqrstuvwxyz" : Str).cps.toList ((r.toNat : Nat) : Int) = some _ := atI_nat (List.getElem?_eq_getElem (by omega))
  rw [e] at q
  have all : ∀ c ∈ ("abcdefghijklmnopqrstuvwxyz" : Str).cps.toList, 97 ≤ c ∧ c ≤ 122 := by decide +kernel
  exact ⟨q, all _ (List.getElem_mem _)⟩
theorem join_flat : ∀ ys : List Str, (Str.join "" ys).cps.toList = (ys.map fun y => y.cps.toList).flatten
  | [] => rfl
  | [y] => (List.append_nil _).symm
  | x :: y :: r => by
    have e : (Str.join "" (x :: y :: r)).cps.toList = (x.cps.toList ++ []) ++ (Str.join "" (y :: r)).cps.toList := by
      show (x ++ "" ++ Str.join "" (y :: r)).cps.toList = _
      exact (Array.toList_append (xs := (x ++ "").cps)).trans (congrArg (· ++ _) Array.toList_append)
    rw [e, join_flat (y :: r), List.append_nil]
    rfl
theorem low_join {ys : List Str} (h : ∀ y ∈ ys, y.length = 1 ∧ low y) : low (Str.join "" ys) := fun c hc => by
  rw [join_flat] at hc
  obtain ⟨l, hl, hcl⟩ := List.mem_flatten.mp hc
  obtain ⟨y, hy, rfl⟩ := List.mem_map.mp hl
  exact (h y hy).2 c hcl
theorem ones_len : ∀ {ys : List Str}, (∀ y ∈ ys, y.length = 1 ∧ low y) → ((ys.map fun y => y.cps.toList).flatten).length = ys.length ∧ (ys.map (·.length)).sum = ys.length
  | [], _ => ⟨rfl, rfl⟩
  | y :: ys, h => by
    obtain ⟨i1, i2⟩ := ones_len fun z hz => h z (List.mem_cons_of_mem _ hz)
    have := (h y List.mem_cons_self).1
    have e : y.cps.toList.length = y.length := Array.length_toList
    rw [List.map_cons, List.flatten_cons, List.length_append, i1, List.length_cons, List.map_cons, List.sum_cons, i2]
    exact ⟨by omega, by omega⟩
theorem strsOf_map : ∀ ys : List Str, strsOf (ys.map D.str) = some ys
  | [] => rfl
  | y :: ys => by
    show (strsOf (ys.map D.str)).map (y :: ·) = _
    rw [strsOf_map ys]; rfl
theorem lcL_yes {i : Nat} {me : ME} {vs : List Nat} {k : List D → Cs → Prop} {x : D} {r acc : List D} {ρ : Cs} (h : me (ρ.set i (.fro x)) fun d ρ3 => mLcL (mgName i) mYes me vs k r (acc ++ [d]) (wipeC ρ3 vs)) : mLcL (mgName i) mYes me vs k (x :: r) acc ρ := by
  unfold mLcL
  exact Eq.mpr (if_pos (c := true = true) (t := me (ρ.set i (.fro x)) fun d ρ3 => mLcL (mgName i) mYes me vs k r (acc ++ [d]) (wipeC ρ3 vs)) (e := mLcL (mgName i) mYes me vs k r acc (wipeC (ρ.set i (.fro x)) vs)) rfl) h
theorem op_var {o : O2} {i : Nat} {d : D} {m : ME} {k : D → Cs → Prop} {ρ : Cs} (h : ρ[i]? = some (.fro d)) (q : m ρ fun db ρ2 => o d db fun r => k r ρ2) : mOp o (mVar i) m ρ k := by
  unfold mOp mVar
  rw [h]
  exact q
theorem letters_L {n : D} {K : List D → Cs → Prop} : ∀ (xs : List D) (ys : List Str) (c : Cell), PL c → (∀ y ∈ ys, y.length = 1 ∧ low y) →
    (∀ (ys' : List Str) (c' : Cell), PL c' → ys'.length = ys.length + xs.length → (∀ y ∈ ys', y.length = 1 ∧ low y) → K (ys'.map .str) [c', .fro n, .fro (.str "abcdefghijklmnopqrstuvwxyz"), .un]) →
    mLcL (mgName 3) mYes (mOp oIx (mVar 2) (mCall F_law_take 1 (rOwn 0 (rCons (mC (.int 26)) rNil)))) [3] K xs (ys.map .str) [c, .fro n, .fro (.str "abcdefghijklmnopqrstuvwxyz"), .un]
  | [], ys, c, p, hy, h => h ys c p rfl hy
  | x :: xs, ys, c, p, hy, h => by
    refine lcL_yes (op_var rfl ?_)
    refine call_take rfl p (fun _ z => z) (by decide) (by decide) fun t c' t0 t1 pc => ?_
    obtain ⟨s, hs, h8⟩ := abc_at t0 t1
    show _ ∧ _
    refine ⟨by decide, ?_⟩
    show match atI ("abcdefghijklmnopqrstuvwxyz" : Str).cps.toList t with | some c => _ | none => False
    rw [hs]
    show mLcL _ _ _ _ K xs (ys.map D.str ++ [.str ⟨#[s]⟩]) _
    have e : ys.map D.str ++ [.str ⟨#[s]⟩] = (ys ++ [(⟨#[s]⟩ : Str)]).map D.str := by rw [List.map_append]; rfl
    rw [e]
    refine letters_L xs (ys ++ [⟨#[s]⟩]) c' pc (fun y my => ?_) (fun ys' c2 p2 l2 => h ys' c2 p2 (by rw [l2, List.length_append, List.length_cons, List.length_cons, List.length_nil]; omega))
    rcases List.mem_append.mp my with z | z
    · exact hy y z
    · rw [List.mem_singleton.mp z]
      exact ⟨rfl, fun d hd => by rw [List.mem_singleton.mp hd]; exact h8⟩
theorem letters_s {c : Cell} {n : Int} {k : D → List Cell → Prop} (p : PL c) (h0 : 0 ≤ n) (h1 : n < 100) (h : ∀ (z : Str) (c' : Cell), low z → z.length = n.toNat → PL c' → k (.str z) [c']) : F_law_letters [c, .fro (.int n)] k := by
  refine Fof.mk rfl ?_
  show -(2 ^ 62) ≤ n ∧ n < 2 ^ 62 ∧ (intsD 0 n.toNat).length ≤ sizeLine ∧ _
  have ln : (intsD 0 n.toNat).length = n.toNat := by unfold intsD; rw [List.length_map, List.length_range]
  have hs : 100 ≤ sizeLine := by decide
  refine ⟨by omega, by omega, by omega, ?_⟩
  refine letters_L (n := .int n) (intsD 0 n.toNat) [] c p (fun _ z => nomatch z) fun ys c' p' l hy => ?_
  obtain ⟨o1, o2⟩ := ones_len hy
  have ey : (seqOf (.list (ys.map D.str))).bind strsOf = some ys := strsOf_map ys
  show match (seqOf (.list (ys.map D.str))).bind strsOf with | some ys => _ | none => False
  rw [ey]
  rw [ln] at l
  have l' : ys.length = n.toNat := by simpa using l
  have ej : Txt.join "" ys = Str.join "" ys := StrLaws.glued_eq_join ..
  refine ⟨?_, ?_⟩
  · show (ys.map (·.length)).sum + ys.length * 0 ≤ 16777216
    omega
  · refine h _ c' ?_ ?_ p'
    · rw [ej]; exact low_join hy
    · rw [ej, ← l', ← o1, ← join_flat]; exact Array.length_toList.symm
theorem call_letters {j : Nat} {m : ME} {k : D → Cs → Prop} {x : D} {ρ : Cs} (hj : ρ[j]? = some (.own x)) (hm : ∀ k' : D → Cs → Prop, (∀ (n : Int) (c : Cell), PL c → 0 ≤ n → n < 100 → k' (.int n) (ρ.set j c)) → m ρ k')
    (h : ∀ (z : Str) (c' : Cell), low z → z.length < 100 → PL c' → k (.str z) (ρ.set j c')) : mCall F_law_letters 1 (rOwn j (rCons m rNil)) ρ k := by
  refine call_j hj (hm _ fun n c p n0 n1 => ?_)
  have hl : j < ρ.length := by
    have := hj
    exact (List.getElem?_eq_some_iff.mp this).1
  obtain ⟨a, b, rfl, p'⟩ := id p
  refine aft (x := .list [.int a, .int b]) (by rw [List.getElem?_set_self hl]) (letters_s p n0 n1 fun z c' lz ez pc => ?_)
  show k (.str z) ((ρ.set j _).set j c')
  rw [List.set_set]
  exact h z c' lz (by omega) pc
end K05d

namespace K05d
open PySem PySem.Spec PyProof.Rows L2 Br Dl K05
/-! the first part that is amiss, by parts -/
structure Whole (d0 d1 d2 d3 d4 d5 d6 : PyData) : Prop where
  h0 : nameD d0 = true
  h1 : oneOfD kindsL d1 = true
  h2 : personD d2 = true
  h3 : aboutD (kS d1) d3 = true
  h4 : bodyD (kS d1) d4 = true
  h5 : namesD (decide (V.str (kS d1) = V.str "begin")) d0 d5 = true
  h6 : namesD (decide (V.str (kS d1) = V.str "begin")) d0 d6 = true
theorem told_of {d0 d1 d2 d3 d4 d5 d6 : PyData} {z : Str} (h : wrongD d0 d1 d2 d3 d4 d5 d6 = some z) : toldS (.tuple [d0, d1, d2, d3, d4, d5, d6]) = z := by
  have e : amiss (.tuple [d0, d1, d2, d3, d4, d5, d6]) = (wrongD d0 d1 d2 d3 d4 d5 d6).map V.str := rfl
  unfold toldS
  rw [e, h]
  rfl
section
variable {d0 d1 d2 d3 d4 d5 d6 e0 e1 e2 e3 e4 e5 e6 : PyData}
theorem tf {b : Bool} (h : b = true) : ¬ b = false := fun z => by rw [h] at z; cases z
theorem at0 (b : nameD e0 = false) : toldS (.tuple [e0, e1, e2, e3, e4, e5, e6]) = ("name" : Str) := told_of (by unfold wrongD; rw [if_pos b])
theorem at1' (w : Whole d0 d1 d2 d3 d4 d5 d6) (b : oneOfD kindsL e1 = false) : toldS (.tuple [d0, e1, e2, e3, e4, e5, e6]) = ("kind" : Str) := told_of (by unfold wrongD; rw [if_neg (tf w.h0), if_pos b])
theorem at2 (w : Whole d0 d1 d2 d3 d4 d5 d6) (b : personD e2 = false) : toldS (.tuple [d0, d1, e2, e3, e4, e5, e6]) = ("who" : Str) := told_of (by unfold wrongD; rw [if_neg (tf w.h0), if_neg (tf w.h1), if_pos b])
theorem at3 (w : Whole d0 d1 d2 d3 d4 d5 d6) (p : personD e2 = true) (b : aboutD (kS d1) e3 = false) : toldS (.tuple [d0, d1, e2, e3, e4, e5, e6]) = ("about" : Str) := told_of (by unfold wrongD; rw [if_neg (tf w.h0), if_neg (tf w.h1), if_neg (tf p), if_pos b])
theorem at4 (w : Whole d0 d1 d2 d3 d4 d5 d6) (p : personD e2 = true) (b : bodyD (kS d1) e4 = false) : toldS (.tuple [d0, d1, e2, d3, e4, e5, e6]) = ("body" : Str) := told_of (by unfold wrongD; rw [if_neg (tf w.h0), if_neg (tf w.h1), if_neg (tf p), if_neg (tf w.h3), if_pos b])
theorem at5 (w : Whole d0 d1 d2 d3 d4 d5 d6) (p : personD e2 = true) (b : namesD (decide (V.str (kS d1) = V.str "begin")) d0 e5 = false) : toldS (.tuple [d0, d1, e2, d3, d4, e5, e6]) = ("after" : Str) := told_of (by unfold wrongD; rw [if_neg (tf w.h0), if_neg (tf w.h1), if_neg (tf p), if_neg (tf w.h3), if_neg (tf w.h4), if_pos b])
theorem at6 (w : Whole d0 d1 d2 d3 d4 d5 d6) (p : personD e2 = true) (b : namesD (decide (V.str (kS d1) = V.str "begin")) d0 e6 = false) : toldS (.tuple [d0, d1, e2, d3, d4, d5, e6]) = ("leave" : Str) := told_of (by unfold wrongD; rw [if_neg (tf w.h0), if_neg (tf w.h1), if_neg (tf p), if_neg (tf w.h3), if_neg (tf w.h4), if_neg (tf w.h5), if_pos b])
theorem at7 (w : Whole d0 d1 d2 d3 d4 d5 d6) (p : personD e2 = true) (b : decide (V.str (hsP e2) = V.str (nmOf d0).1) = false) : toldS (.tuple [d0, d1, e2, d3, d4, d5, d6]) = ("house" : Str) := told_of (by unfold wrongD; rw [if_neg (tf w.h0), if_neg (tf w.h1), if_neg (tf p), if_neg (tf w.h3), if_neg (tf w.h4), if_neg (tf w.h5), if_neg (tf w.h6), if_pos b])
end
/-! what the law puts in a part's place is bad there -/
def bad012 : List PyData := [.none, .int 5, .str "A", .tuple [.str "a"], .list [], .str "say "]
theorem bad0 : ∀ x ∈ bad012, nameD x = false := by unfold bad012; decide +kernel
theorem bad1 : ∀ x ∈ bad012, oneOfD kindsL x = false := by unfold bad012; decide +kernel
theorem bad2 : ∀ x ∈ bad012, personD x = false := by unfold bad012; decide +kernel
def bad4L : List PyData := [.none, .int 5, .str "x\n", .tuple [.int 1], .list [], .tuple [.str "A", .int 1]]
theorem bad4 : ∀ k ∈ kindsL, ∀ x ∈ bad4L, bodyD k x = false := by unfold bad4L kindsL; decide +kernel
def bad3L (k : Str) : List PyData := [.none, .str "x", .str "out", .int 5, .str k]
theorem bad3 : ∀ k ∈ kindsL, ∀ x ∈ bad3L k, aboutD k x = false := by unfold bad3L kindsL; decide +kernel
def bad56L (own : PyData) : List PyData := [.none, .list [.tuple [.str "a", .int 1]], .tuple [.tuple [.str "A", .int 1]], .tuple [own], .tuple [.tuple [.str "b", .int 1], .tuple [.str "a", .int 1]], .tuple [.int 1]]
end K05d

namespace K05d
open PySem PySem.Spec PyProof.Rows L2 Br Dl K05
def Pn (z h : Str) : Prop := (∃ a, Txt.split z "@" = [a, h]) ∧ z.length + 2 ≤ sizeLine
end K05d

namespace K05d
open PySem PySem.Spec PyProof.Rows L2 Br Dl K05
theorem op_any {o : O2} {ma mb : ME} {k : D → Cs → Prop} {ρ : Cs} (q : ma ρ fun da ρ1 => mb ρ1 fun db ρ2 => o da db fun r => k r ρ2) : mOp o ma mb ρ k := q
theorem op_c {o : O2} {d : D} {mb : ME} {k : D → Cs → Prop} {ρ : Cs} (q : mb ρ fun db ρ2 => o d db fun r => k r ρ2) : mOp o (mC d) mb ρ k := q
theorem seq_set {i : Nat} {m : ME} {b : MS} {E : Dn} {ρ : Cs} (q : m ρ fun d ρ1 => b E (ρ1.set i (.fro d))) : sSeq (sSet i m) b E ρ := q
theorem len_app (x y : Str) : (x ++ y).length = x.length + y.length := Array.size_append
theorem low_app {x y : Str} (a : low x) (b : low y) : low (x ++ y) := fun c hc => by
  have e : (x ++ y).cps.toList = x.cps.toList ++ y.cps.toList := Array.toList_append
  rw [e] at hc
  exact (List.mem_append.mp hc).elim (a c) (b c)
/-- a person as drawn -/
def Pd (z : Str) : Prop := ∃ w h, low w ∧ low h ∧ (1 ≤ w.length ∧ w.length ≤ 4) ∧ (1 ≤ h.length ∧ h.length ≤ 3) ∧ z = w ++ "@" ++ h
theorem Pd.split {w h : Str} (a : low w) (b : low h) : Txt.split (w ++ "@" ++ h) "@" = [w, h] :=
  split_two (c := 64) (fun z => by have := a 64 z; omega) (fun z => by have := b 64 z; omega)
theorem Pd.pn {z : Str} (p : Pd z) : ∃ h, Pn z h := by
  obtain ⟨w, h, a, b, l1, l2, rfl⟩ := p
  refine ⟨h, ⟨w, Pd.split a b⟩, ?_⟩
  rw [len_app, len_app]
  have : (Str.ofString "@").length = 1 := by decide
  have s : 1000 ≤ sizeLine := by decide
  omega
theorem xyz_at {r : Int} (h0 : 0 ≤ r) (h1 : r < 6) : ∃ c, atI ("xyzuvw" : Str).cps.toList r = some c ∧ (97 ≤ c ∧ c ≤ 122) := by
  have hl : ("xyzuvw" : Str).cps.toList.length = 6 := by decide +kernel
  have e : ((r.toNat : Nat) : Int) = r := Int.toNat_of_nonneg h0
  refine ⟨("xyzuvw" : Str).cps.toList[r.toNat]'(by omega), ?_⟩
  have q : atI ("xyzuvw" : Str).cps.toList ((r.toNat : Nat) : Int) = some _ := atI_nat (List.getElem?_eq_getElem (by omega))
  rw [e] at q
  have all : ∀ c ∈ ("xyzuvw" : Str).cps.toList, 97 ≤ c ∧ c ≤ 122 := by decide +kernel
  exact ⟨q, all _ (List.getElem_mem _)⟩
/-- 1 + a drawn number -/
theorem one_take {j : Nat} {n : Int} {k : D → Cs → Prop} {c : Cell} {ρ : Cs} (hj : ρ[j]? = some c) (p : PL c) (hn : 0 < n) (hn2 : n < 99)
    (h : ∀ (t : Int) (c' : Cell), PL c' → 1 ≤ t → t ≤ n → k (.int t) (ρ.set j c')) : mOp oAdd (mC (.int 1)) (mCall F_law_take 1 (rOwn j (rCons (mC (.int n)) rNil))) ρ k := by
  refine op_c (call_take hj p (fun _ z => z) hn (by omega) fun t c' t0 t1 pc => ?_)
  exact h (1 + t) c' pc (by omega) (by omega)
theorem call_letters2 {j lo hi : Nat} {m : ME} {k : D → Cs → Prop} {c0 : Cell} {ρ : Cs} (hj : ρ[j]? = some c0) (p0 : PL c0) (hb : hi < 100) (hm : ∀ k' : D → Cs → Prop, (∀ (n : Int) (c : Cell), PL c → (lo : Int) ≤ n → n ≤ hi → k' (.int n) (ρ.set j c)) → m ρ k')
    (h : ∀ (z : Str) (c' : Cell), low z → lo ≤ z.length → z.length ≤ hi → PL c' → k (.str z) (ρ.set j c')) : mCall F_law_letters 1 (rOwn j (rCons m rNil)) ρ k := by
  obtain ⟨a0, b0', rfl, _⟩ := id p0
  refine call_j hj (hm _ fun n c p n0 n1 => ?_)
  have hl : j < ρ.length := (List.getElem?_eq_some_iff.mp hj).1
  obtain ⟨a, b, rfl, p'⟩ := id p
  refine aft (x := .list [.int a, .int b]) (by rw [List.getElem?_set_self hl]) (letters_s p (by omega) (by omega) fun z c' lz ez pc => ?_)
  show k (.str z) ((ρ.set j _).set j c')
  rw [List.set_set]
  exact h z c' lz (by omega) (by omega) pc
theorem call_word {j n : Nat} {k : D → Cs → Prop} {c : Cell} {ρ : Cs} (hj : ρ[j]? = some c) (p : PL c) (hn : 0 < n) (hn2 : n < 99)
    (h : ∀ (z : Str) (c' : Cell), low z → (1 ≤ z.length ∧ z.length ≤ n) → PL c' → k (.str z) (ρ.set j c')) : mCall F_law_letters 1 (rOwn j (rCons (mOp oAdd (mC (.int 1)) (mCall F_law_take 1 (rOwn j (rCons (mC (.int n)) rNil)))) rNil)) ρ k :=
  call_letters2 (lo := 1) (hi := n) hj p (by omega) (fun k' hk => one_take hj p (by omega) (by omega) fun t c' pc t0 t1 => hk t c' pc t0 t1) fun z c' lz z1 z2 pc => h z c' lz ⟨z1, z2⟩ pc
/-- a person as drawn, the i-th -/
def Pk (i : Int) (z : Str) : Prop := ∃ (w h : Str) (y : Nat), low w ∧ low h ∧ w.length ≤ 2 ∧ (1 ≤ h.length ∧ h.length ≤ 3) ∧ atI ("xyzuvw" : Str).cps.toList i = some y ∧ (97 ≤ y ∧ y ≤ 122) ∧ z = w ++ ⟨#[y]⟩ ++ "@" ++ h
theorem Pk.pd {i : Int} {z : Str} (p : Pk i z) : Pd z := by
  obtain ⟨w, h, y, lw, lh, nw, nh, _, hy, rfl⟩ := p
  have ny : (⟨#[y]⟩ : Str).length = 1 := rfl
  have nw1 := len_app w ⟨#[y]⟩
  exact ⟨w ++ ⟨#[y]⟩, h, low_app lw fun d hd => by rw [List.mem_singleton.mp hd]; exact hy, lh, by omega, nh, rfl⟩
/-- of one word, of another house -/
def Tw (b z : Str) : Prop := ∃ w h h' : Str, low w ∧ low h ∧ low h' ∧ h ≠ h' ∧ b = w ++ "@" ++ h ∧ z = w ++ "@" ++ h'
theorem Tw.ne {b z : Str} (t : Tw b z) : b ≠ z := by
  obtain ⟨w, h, h', lw, lh, lh', ne, rfl, rfl⟩ := t
  intro e
  have e1 := Pd.split lw lh
  have e2 := Pd.split lw lh'
  rw [e, e2] at e1
  injection e1 with _ e1
  injection e1 with e1 _
  exact ne e1.symm
theorem last_word {w w' : Str} {y y' : Nat} (e : w ++ (⟨#[y]⟩ : Str) = w' ++ ⟨#[y']⟩) : y = y' := by
  have e1 : (w ++ (⟨#[y]⟩ : Str)).cps.toList = w.cps.toList ++ [y] := Array.toList_append
  have e2 : (w' ++ (⟨#[y']⟩ : Str)).cps.toList = w'.cps.toList ++ [y'] := Array.toList_append
  rw [e, e2] at e1
  have := congrArg List.getLast? e1
  simpa using this.symm
theorem Pk.low1 {w : Str} {y : Nat} (lw : low w) (hy : 97 ≤ y ∧ y ≤ 122) : low (w ++ (⟨#[y]⟩ : Str)) := low_app lw fun d hd => by rw [List.mem_singleton.mp hd]; exact hy
theorem Pk.ne {i j : Int} {y z : Str} (p : Pk i y) (q : Pk j z) (hn : atI ("xyzuvw" : Str).cps.toList i ≠ atI ("xyzuvw" : Str).cps.toList j) : y ≠ z := by
  obtain ⟨w, h, c, lw, lh, nw, nh, ec, hc, rfl⟩ := p
  obtain ⟨w', h', c', lw', lh', nw', nh', ec', hc', rfl⟩ := q
  intro e
  have e1 := Pd.split (Pk.low1 lw hc) lh
  have e2 := Pd.split (Pk.low1 lw' hc') lh'
  rw [e, e2] at e1
  injection e1 with e1 _
  rw [ec, ec', last_word e1] at hn
  exact hn rfl
theorem Pk.tw {i j : Int} {y b z : Str} (p : Pk i y) (q : Pk j b) (t : Tw b z) (hn : atI ("xyzuvw" : Str).cps.toList i ≠ atI ("xyzuvw" : Str).cps.toList j) : y ≠ z := by
  obtain ⟨w, h, c, lw, lh, nw, nh, ec, hc, rfl⟩ := p
  obtain ⟨w', h', c', lw', lh', nw', nh', ec', hc', rfl⟩ := q
  obtain ⟨w2, h2, h3, l2, l3, l4, _, e, rfl⟩ := t
  intro ez
  have e1 := Pd.split (Pk.low1 lw hc) lh
  have e2 := Pd.split l2 l4
  rw [ez, e2] at e1
  have e3 := Pd.split (Pk.low1 lw' hc') lh'
  have e4 := Pd.split l2 l3
  rw [e, e4] at e3
  injection e1 with e1 _
  injection e3 with e3 _
  rw [ec, ec', last_word (e1.symm.trans e3)] at hn
  exact hn rfl
theorem home_at {h0 h1 : Str} {t : Int} {k : D → Prop} (t0 : 0 ≤ t) (t1 : t < 2) (a0 : k (.str h0)) (a1 : k (.str h1)) : oIx (.list [.str h0, .str h1]) (.int t) k := by
  have : t = 0 ∨ t = 1 := by omega
  rcases this with rfl | rfl
  · exact a0
  · exact a1
def folk_body : MS := (sSeq (sSet 6 (mOp oAdd (mCall F_law_letters 1 (rOwn 0 (rCons (mOp oAdd (mC (.int 1)) (mCall F_law_take 1 (rOwn 0 (rCons (mC (.int 2)) rNil)))) rNil))) (mOp oIx (mC (.str "xyzuvw")) (mVar 5))))
    (sAppend 4 (mOp oAdd (mOp oAdd (mVar 6) (mC (.str "@"))) (mOp oIx (mVar 2) (mCall F_law_take 1 (rOwn 0 (rCons (mC (.int 2)) rNil)))))))
theorem folk_step {E : Dn} {c x6 : Cell} {n : D} {h0 h1 : Str} {zs : List Str} {i : Int} (p : PL c) (i0 : 0 ≤ i) (i1 : i < 6) (l0 : low h0) (l1 : low h1) (n0 : (1 ≤ h0.length ∧ h0.length ≤ 3)) (n1 : (1 ≤ h1.length ∧ h1.length ≤ 3)) (hl : zs.length < 100)
    (h : ∀ (c' x6' : Cell) (z : Str), PL c' → Pk i z → E.nx [c', .fro n, .fro (.list [.str h0, .str h1]), .un, .own (.list ((zs ++ [z]).map .str)), .fro (.int i), x6', .un]) :
    folk_body E [c, .fro n, .fro (.list [.str h0, .str h1]), .un, .own (.list (zs.map .str)), .fro (.int i), x6, .un] := by
  have s : 1000 ≤ sizeLine := by decide
  refine seq_set (op_any ?_)
  refine call_word (n := 2) rfl p (by decide) (by decide) fun w c1 lw nw p1 => ?_
  obtain ⟨y, ey, hy⟩ := xyz_at i0 i1
  show _ ∧ _
  refine ⟨by decide, ?_⟩
  show match atI ("xyzuvw" : Str).cps.toList i with | some c => _ | none => False
  rw [ey]
  have ny : (⟨#[y]⟩ : Str).length = 1 := rfl
  refine ⟨by omega, ?_⟩
  have nw1 := len_app w ⟨#[y]⟩
  generalize ew : w ++ (⟨#[y]⟩ : Str) = w1 at nw1 ⊢
  have na : (Str.ofString "@").length = 1 := by decide
  refine ⟨⟨_, rfl⟩, ?_⟩
  refine ⟨by omega, ?_⟩
  refine op_var rfl ?_
  refine call_take rfl p1 (fun _ z => z) (by decide) (by decide) fun t c2 t0 t1 p2 => ?_
  have nw2 := len_app w1 "@"
  have fin : ∀ hh : Str, low hh → (1 ≤ hh.length ∧ hh.length ≤ 3) → oAdd (.str (w1 ++ "@")) (.str hh) fun d => (zs.map D.str).length < sizeLine ∧ E.nx [c2, .fro n, .fro (.list [.str h0, .str h1]), .un, .own (.list (zs.map D.str ++ [d])), .fro (.int i), .fro (.str w1), .un] := by
    intro hh lh nh
    refine ⟨by omega, ?_⟩
    refine ⟨by rw [List.length_map]; omega, ?_⟩
    have e : zs.map D.str ++ [.str (w1 ++ "@" ++ hh)] = (zs ++ [w1 ++ "@" ++ hh]).map D.str := by rw [List.map_append]; rfl
    show E.nx [c2, .fro n, .fro (.list [.str h0, .str h1]), .un, .own (.list (zs.map D.str ++ [.str (w1 ++ "@" ++ hh)])), .fro (.int i), .fro (.str w1), .un]
    rw [e]
    exact h c2 _ _ p2 ⟨w, hh, y, lw, lh, by omega, by omega, ey, hy, by rw [ew]⟩
  exact home_at t0 t1 (fin h0 l0 n0) (fin h1 l1 n1)
def folk_put : MS := (sSeq (sSet 7 (mSplit (mOpO oIx 4 (mC (.int 1))) (mC (.str "@"))))
    (sPut 4 (mOp oAdd (mOp oAdd (mOp oIx (mVar 7) (mC (.int 0))) (mC (.str "@"))) (mOp oIx (mVar 2) (mUn oInt (mOp oEq (mOp oIx (mVar 7) (mC (.int 1))) (mOp oIx (mVar 2) (mC (.int 0))))))) (mUn oNeg (mC (.int 1)))))
def folk_tail : MS := (sSeq (sIf (mAnd (mTest (mOp oNe (mOp oIx (mVar 2) (mC (.int 0))) (mOp oIx (mVar 2) (mC (.int 1))))) (mTest (mOp oEq (mCall F_law_take 1 (rOwn 0 (rCons (mC (.int 3)) rNil))) (mC (.int 0))))) folk_put sNext) (sRet (mFrz 4)))
def folk_homes : ME := (mLc (mRng1 (aCons (mC (.int 2)) aNil)) (mgName 3) mYes (mCall F_law_letters 1 (rOwn 0 (rCons (mOp oAdd (mC (.int 1)) (mCall F_law_take 1 (rOwn 0 (rCons (mC (.int 3)) rNil)))) rNil))) [3])
theorem folk_eq : b_law_folk = (sSeq (mFro 2 (sSetO 2 folk_homes)) (sSeq (sSetO 4 (mLst aNil)) (sSeq (sFor (mRng1 (aCons (mVar 1) aNil)) (mgName 5) folk_body) folk_tail))) := rfl
theorem folk_put_s {E : Dn} {c x5 x6 : Cell} {n : D} {h0 h1 a b d e : Str} (p : PL c) (l0 : low h0) (l1 : low h1) (n0 : (1 ≤ h0.length ∧ h0.length ≤ 3)) (n1 : (1 ≤ h1.length ∧ h1.length ≤ 3)) (hne : h0 ≠ h1) (pb : Pd b)
    (h : ∀ (x : Cell) (z : Str), Tw b z → Pd z → E.nx [c, .fro n, .fro (.list [.str h0, .str h1]), .un, .own (.list [.str a, .str b, .str d, .str z]), x5, x6, x]) :
    folk_put E [c, .fro n, .fro (.list [.str h0, .str h1]), .un, .own (.list [.str a, .str b, .str d, .str e]), x5, x6, .un] := by
  obtain ⟨hh, ⟨w, es⟩, el⟩ := id pb.pn
  obtain ⟨w', h', a1, a2, a3, a4, e'⟩ := pb
  have es' := Pd.split a1 a2
  rw [← e', es] at es'
  injection es' with q1 es'
  injection es' with q2 _
  subst q1 q2
  have t1 : ((Str.ofString "@").length == 0) = false := by decide
  have t2 : ((Str.ofString "@").length = 0) = False := by decide
  have na : (Str.ofString "@").length = 1 := by decide
  have s : 1000 ≤ sizeLine := by decide
  have nw := len_app w "@"
  have m1 : w.length + (Str.ofString "@").length ≤ sizeLine := by omega
  have m2 : (w ++ Str.ofString "@").length + h0.length ≤ sizeLine := by omega
  have m3 : (w ++ Str.ofString "@").length + h1.length ≤ sizeLine := by omega
  by_cases q : hh = h0
  · have := h (.fro (.list [.str w, .str hh])) (w ++ "@" ++ h1) ⟨w, hh, h1, a1, a2, l1, by rw [q]; exact hne, e', rfl⟩ ⟨w, h1, a1, l1, a3, by omega, rfl⟩
    simp [folk_put, ↓sSeq, ↓sSet, ↓mSplit, ↓mOpO, ↓mOwn, ↓mOp, ↓mVar, ↓mC, ↓oIx, atI, ixN, es, el, t1, t2, ↓sPut, ↓mUn, ↓oInt, ↓oEq, ↓oNeg, ↓oAdd, ↓oPut, q, m1, m2, m3]
    simpa [q] using this
  · have := h (.fro (.list [.str w, .str hh])) (w ++ "@" ++ h0) ⟨w, hh, h0, a1, a2, l0, q, e', rfl⟩ ⟨w, h0, a1, l0, a3, by omega, rfl⟩
    simp [folk_put, ↓sSeq, ↓sSet, ↓mSplit, ↓mOpO, ↓mOwn, ↓mOp, ↓mVar, ↓mC, ↓oIx, atI, ixN, es, el, t1, t2, ↓sPut, ↓mUn, ↓oInt, ↓oEq, ↓oNeg, ↓oAdd, ↓oPut, q, m1, m2, m3]
    simpa using this
theorem folk_tail_s {E : Dn} {c x5 x6 : Cell} {n : D} {h0 h1 a b d e : Str} (p : PL c) (l0 : low h0) (l1 : low h1) (n0 : (1 ≤ h0.length ∧ h0.length ≤ 3)) (n1 : (1 ≤ h1.length ∧ h1.length ≤ 3)) (pa : Pd a) (pb : Pd b) (pd : Pd d) (pe : Pd e)
    (h : ∀ (c' x5 x6 x7 : Cell) (z : Str), PL c' → (z = e ∨ Tw b z) → Pd z → E.rt (.list [.str a, .str b, .str d, .str z]) [c', .fro n, .fro (.list [.str h0, .str h1]), .un, .fro (.list [.str a, .str b, .str d, .str z]), x5, x6, x7]) :
    folk_tail E [c, .fro n, .fro (.list [.str h0, .str h1]), .un, .own (.list [.str a, .str b, .str d, .str e]), x5, x6, .un] := by
  by_cases q : h0 = h1
  · have := h c x5 x6 .un e p (.inl rfl) pe
    simp [folk_tail, ↓sSeq, ↓sIf, ↓mAnd, ↓mTest, ↓mOp, ↓mVar, ↓mC, ↓oIx, atI, ixN, ↓oNe, q, ↓sNext, ↓sRet, ↓mFrz]
    simpa [q] using this
  · have st : folk_tail E [c, .fro n, .fro (.list [.str h0, .str h1]), .un, .own (.list [.str a, .str b, .str d, .str e]), x5, x6, .un] = (if (!decide (h0 = h1)) = true then (mCall F_law_take 1 (rOwn 0 (rCons (mC (.int 3)) rNil)) [c, .fro n, .fro (.list [.str h0, .str h1]), .un, .own (.list [.str a, .str b, .str d, .str e]), x5, x6, .un] fun da ρ1 => oEq da (.int 0) fun r => (mTest (fun ρ k => k r ρ)) ρ1 fun b ρ2 => if b = true then folk_put { E with nx := sRet (mFrz 4) E } ρ2 else sRet (mFrz 4) E ρ2) else _) := rfl
    rw [st, if_pos (by simp [q])]
    refine call_take rfl p (fun _ z => z) (by decide) (by decide) fun t c2 t0 t1 p2 => ?_
    show if decide (t = 0) = true then _ else _
    by_cases q0 : t = 0
    · rw [if_pos (decide_eq_true q0)]
      refine folk_put_s p2 l0 l1 n0 n1 q pb fun x z tw pz => ?_
      exact h _ _ _ _ _ p2 (.inr tw) pz
    · rw [if_neg (by rw [decide_eq_false q0]; decide)]
      exact h _ _ _ _ _ p2 (.inl rfl) pe
theorem homes_s {c : Cell} {n x2 x4 x5 x6 x7 : Cell} {k : D → Cs → Prop} (p : PL c) (h : ∀ (c' : Cell) (h0 h1 : Str), PL c' → low h0 → low h1 → (1 ≤ h0.length ∧ h0.length ≤ 3) → (1 ≤ h1.length ∧ h1.length ≤ 3) → k (.list [.str h0, .str h1]) [c', n, x2, .un, x4, x5, x6, x7]) :
    folk_homes [c, n, x2, .un, x4, x5, x6, x7] k := by
  have s : 100 ≤ sizeLine := by decide
  show -(2 ^ 62) ≤ (2 : Int) ∧ (2 : Int) < 2 ^ 62 ∧ (2 : Nat) ≤ sizeLine ∧ mLcL (mgName 3) mYes _ [3] (fun ds ρ2 => k (.list ds) ρ2) [.int 0, .int 1] [] [c, n, x2, .un, x4, x5, x6, x7]
  refine ⟨by omega, by omega, by omega, lcL_yes ?_⟩
  refine call_word (n := 3) rfl p (by decide) (by decide) fun z c1 lz nz p1 => ?_
  refine lcL_yes ?_
  refine call_word (n := 3) rfl p1 (by decide) (by decide) fun y c2 ly ny p2 => ?_
  exact h c2 z y p2 lz ly nz ny
theorem seq_froO {i : Nat} {m : ME} {b : MS} {E : Dn} {ρ : Cs} (q : m ρ fun d ρ1 => mFrz i (ρ1.set i (.own d)) fun _ ρ2 => b E ρ2) : sSeq (mFro i (sSetO i m)) b E ρ := q
theorem frz_at {i : Nat} {d : D} {ρ : Cs} {k : D → Cs → Prop} (h : ρ[i]? = some (.own d)) (q : k d (ρ.set i (.fro d))) : mFrz i ρ k := by
  unfold mFrz
  rw [h]
  exact q
theorem seq_setO {i : Nat} {m : ME} {b : MS} {E : Dn} {ρ : Cs} (q : m ρ fun d ρ1 => b E (ρ1.set i (.own d))) : sSeq (sSetO i m) b E ρ := q
theorem seq_for {mi : MI} {mg : MG} {bd b : MS} {E : Dn} {ρ : Cs} (q : mi ρ fun xs ρ1 => sForL mg bd { E with nx := b E } xs ρ1) : sSeq (sFor mi mg bd) b E ρ := q
theorem lst_nil {ρ : Cs} {k : D → Cs → Prop} (q : k (.list []) ρ) : mLst aNil ρ k := ⟨Nat.zero_le _, q⟩
theorem rng_var {i : Nat} {n : Int} {ρ : Cs} {k : List D → Cs → Prop} (h : ρ[i]? = some (.fro (.int n))) (b1 : -(2 ^ 62) ≤ n) (b2 : n < 2 ^ 62) (q : k (intsD 0 n.toNat) ρ) : mRng1 (aCons (mVar i) aNil) ρ k := by
  unfold mRng1 aCons mVar
  rw [h]
  exact ⟨b1, b2, q⟩
theorem folk_s {c : Cell} {k : D → List Cell → Prop} (p : PL c) (h : ∀ (c' : Cell) (a b d e : Str), PL c' → Pd a → Pd b → Pd d → Pd e → [a, b, d, e].Nodup → k (.list [.str a, .str b, .str d, .str e]) [c']) : F_law_folk [c, .fro (.int 4)] k := by
  refine Fof.mk rfl ?_
  rw [folk_eq]
  refine seq_froO (homes_s p fun c1 h0 h1 p1 l0 l1 n0 n1 => frz_at rfl (seq_setO (lst_nil (seq_for (rng_var rfl (by omega) (by omega) ?_)))))
  refine (folk_step (zs := []) p1 (by decide) (by decide) l0 l1 n0 n1 (by decide) fun c2 x6 a p2 pa => ?_ : folk_body _ [c1, .fro (.int 4), .fro (.list [.str h0, .str h1]), .un, .own (.list (([] : List Str).map .str)), .fro (.int 0), .un, .un])
  refine (folk_step (zs := [a]) p2 (by decide) (by decide) l0 l1 n0 n1 (Nat.le_of_ble_eq_true rfl) fun c3 x6' b p3 pb => ?_ : folk_body _ [c2, .fro (.int 4), .fro (.list [.str h0, .str h1]), .un, .own (.list (([a] : List Str).map .str)), .fro (.int 1), x6, .un])
  refine (folk_step (zs := [a, b]) p3 (by decide) (by decide) l0 l1 n0 n1 (Nat.le_of_ble_eq_true rfl) fun c4 x6'' d p4 pd => ?_ : folk_body _ [c3, .fro (.int 4), .fro (.list [.str h0, .str h1]), .un, .own (.list (([a, b] : List Str).map .str)), .fro (.int 2), x6', .un])
  refine (folk_step (zs := [a, b, d]) p4 (by decide) (by decide) l0 l1 n0 n1 (Nat.le_of_ble_eq_true rfl) fun c5 x6b e p5 pe => ?_ : folk_body _ [c4, .fro (.int 4), .fro (.list [.str h0, .str h1]), .un, .own (.list (([a, b, d] : List Str).map .str)), .fro (.int 3), x6'', .un])
  refine (folk_tail_s p5 l0 l1 n0 n1 pa.pd pb.pd pd.pd pe.pd fun c' x5 x6 x7 z p' hz pz => ?_ : folk_tail _ [c5, .fro (.int 4), .fro (.list [.str h0, .str h1]), .un, .own (.list [.str a, .str b, .str d, .str e]), .fro (.int 3), x6b, .un])
  have ab := pa.ne pb (by decide +kernel)
  have ad := pa.ne pd (by decide +kernel)
  have bd := pb.ne pd (by decide +kernel)
  have az : a ≠ z := hz.elim (fun q => q ▸ pa.ne pe (by decide +kernel)) fun q => pa.tw pb q (by decide +kernel)
  have bz : b ≠ z := hz.elim (fun q => q ▸ pb.ne pe (by decide +kernel)) fun q => q.ne
  have dz : d ≠ z := hz.elim (fun q => q ▸ pd.ne pe (by decide +kernel)) fun q => pd.tw pb q (by decide +kernel)
  exact h c' a b d z p' pa.pd pb.pd pd.pd pz (by simp [ab, ad, az, bd, bz, dz])
end K05d

namespace K05d
open PySem PySem.Spec PyProof.Rows L2 Br Dl K05
/-! what an expression gives, the cells as they were -/
def Ev (m : ME) (ρ : Cs) (d : D) : Prop := ∀ k : D → Cs → Prop, k d ρ → m ρ k
def EvA (m : MA) (ρ : Cs) (ds : List D) : Prop := ∀ k : List D → Cs → Prop, k ds ρ → m ρ k
theorem ev_c {d : D} {ρ : Cs} : Ev (mC d) ρ d := fun k h => h
theorem ev_var {i : Nat} {d : D} {ρ : Cs} (h : ρ[i]? = some (.fro d)) : Ev (mVar i) ρ d := fun k q => by
  unfold mVar
  rw [h]
  exact q
theorem eva_nil {ρ : Cs} : EvA aNil ρ [] := fun k h => h
theorem eva_cons {m : ME} {ma : MA} {ρ : Cs} {d : D} {ds : List D} (h : Ev m ρ d) (g : EvA ma ρ ds) : EvA (aCons m ma) ρ (d :: ds) := fun k q => h _ (g _ q)
theorem ev_tup {ma : MA} {ρ : Cs} {ds : List D} (h : EvA ma ρ ds) (hl : ds.length ≤ 1000) : Ev (mTup ma) ρ (.tuple .mad ds) := fun k q => h _ ⟨Nat.le_trans hl (by decide), q⟩
theorem ev_tupZ {ma : MA} {ρ : Cs} {ds : List D} (h : EvA ma ρ ds) (hl : ds.length ≤ 1000) : Ev (mTupZ ma) ρ (.tuple .frz ds) := fun k q => h _ ⟨Nat.le_trans hl (by decide), q⟩
theorem ev_lst {ma : MA} {ρ : Cs} {ds : List D} (h : EvA ma ρ ds) (hl : ds.length ≤ 1000) : Ev (mLst ma) ρ (.list ds) := fun k q => h _ ⟨Nat.le_trans hl (by decide), q⟩
theorem ev_op {o : O2} {ma mb : ME} {ρ : Cs} {a b d : D} (h : Ev ma ρ a) (g : Ev mb ρ b) (ho : ∀ k : D → Prop, k d → o a b k) : Ev (mOp o ma mb) ρ d := fun k q => h _ (g _ (ho _ q))
theorem ev_un {o : O1} {ma : ME} {ρ : Cs} {a d : D} (h : Ev ma ρ a) (ho : ∀ k : D → Prop, k d → o a k) : Ev (mUn o ma) ρ d := fun k q => h _ (ho _ q)
theorem ev_rev {ma : ME} {ρ : Cs} {c : Tk} {xs : List D} (h : Ev ma ρ (.tuple c xs)) : Ev (mRev ma) ρ (.tuple .mad xs.reverse) := fun k q => h _ q
theorem ev_call1 {F : Fs} {ma : ME} {ρ : Cs} {a d : D} (h : Ev ma ρ a) (hF : ∀ k : D → List Cell → Prop, k d [] → F [.fro a] k) : Ev (mCall F 0 (rCons ma rNil)) ρ d := fun k q => h _ ⟨List.nodup_nil, rfl, hF _ q⟩
theorem ev_call2 {F : Fs} {ma mb : ME} {ρ : Cs} {a b d : D} (h : Ev ma ρ a) (g : Ev mb ρ b) (hF : ∀ k : D → List Cell → Prop, k d [] → F [.fro a, .fro b] k) : Ev (mCall F 0 (rCons ma (rCons mb rNil))) ρ d := fun k q => h _ (g _ ⟨List.nodup_nil, rfl, hF _ q⟩)
theorem ev_call3 {F : Fs} {ma mb mc : ME} {ρ : Cs} {a b c d : D} (h : Ev ma ρ a) (g : Ev mb ρ b) (e : Ev mc ρ c) (hF : ∀ k : D → List Cell → Prop, k d [] → F [.fro a, .fro b, .fro c] k) : Ev (mCall F 0 (rCons ma (rCons mb (rCons mc rNil)))) ρ d := fun k q => h _ (g _ (e _ ⟨List.nodup_nil, rfl, hF _ q⟩))
theorem set_ev {i : Nat} {m : ME} {b : MS} {E : Dn} {ρ : Cs} {d : D} (h : Ev m ρ d) (q : b E (ρ.set i (.fro d))) : sSeq (sSet i m) b E ρ := h _ q
abbrev ret0 (t : MT) : MS := sIf t (sRet (mC (.bool false))) sNext
/-! tests -/
def EvT (t : MT) (ρ : Cs) (b : Bool) : Prop := ∀ k : Bool → Cs → Prop, k b ρ → t ρ k
theorem evt_test {m : ME} {ρ : Cs} {b : Bool} (h : Ev m ρ (.bool b)) : EvT (mTest m) ρ b := fun k q => h _ q
theorem evt_not {t : MT} {ρ : Cs} {b : Bool} (h : EvT t ρ b) : EvT (mNot t) ρ (!b) := fun k q => h _ q
theorem evt_or {t u : MT} {ρ : Cs} (h : EvT t ρ false) (g : EvT u ρ false) : EvT (mOr t u) ρ false := fun k q => h _ (g _ q)
theorem evt_and0 {t u : MT} {ρ : Cs} (h : EvT t ρ false) : EvT (mAnd t u) ρ false := fun k q => h _ q
theorem evt_and1 {t u : MT} {ρ : Cs} {b : Bool} (h : EvT t ρ true) (g : EvT u ρ b) : EvT (mAnd t u) ρ b := fun k q => h _ (g _ q)
theorem ret0_s {t : MT} {E : Dn} {ρ : Cs} (h : EvT t ρ false) (q : E.nx ρ) : ret0 t E ρ := h _ q
theorem seq0_s {t : MT} {b : MS} {E : Dn} {ρ : Cs} (h : EvT t ρ false) (q : b E ρ) : sSeq (ret0 t) b E ρ := h _ q
theorem tup_st {ma : MA} {ρ : Cs} {k : D → Cs → Prop} (q : ma ρ fun ds ρ1 => ds.length ≤ sizeLine ∧ k (.tuple .mad ds) ρ1) : mTup ma ρ k := q
theorem tupZ_st {ma : MA} {ρ : Cs} {k : D → Cs → Prop} (q : ma ρ fun ds ρ1 => ds.length ≤ sizeLine ∧ k (.tuple .frz ds) ρ1) : mTupZ ma ρ k := q
theorem lst_st {ma : MA} {ρ : Cs} {k : D → Cs → Prop} (q : ma ρ fun ds ρ1 => ds.length ≤ sizeLine ∧ k (.list ds) ρ1) : mLst ma ρ k := q
theorem a_st {m : ME} {ma : MA} {ρ : Cs} {k : List D → Cs → Prop} (q : m ρ fun d ρ1 => ma ρ1 fun ds ρ2 => k (d :: ds) ρ2) : aCons m ma ρ k := q
theorem op_st {o : O2} {ma mb : ME} {ρ : Cs} {k : D → Cs → Prop} (q : ma ρ fun da ρ1 => mb ρ1 fun db ρ2 => o da db fun d => k d ρ2) : mOp o ma mb ρ k := q
theorem seq_set' {i : Nat} {m : ME} {b : MS} {E : Dn} {ρ : Cs} (q : m ρ fun d ρ1 => b E (ρ1.set i (.fro d))) : sSeq (sSet i m) b E ρ := q
theorem pick {xs : List D} {u : Int} {K : D → Prop} (u0 : 0 ≤ u) (u1 : u < xs.length) (h : ∀ x ∈ xs, K x) : oIx (.list xs) (.int u) K := by
  have hl : u.toNat < xs.length := by omega
  have e : atI xs u = some (xs[u.toNat]'hl) := by
    have := atI_nat (xs := xs) (j := u.toNat) (List.getElem?_eq_getElem hl)
    rwa [Int.toNat_of_nonneg u0] at this
  show match atI xs u with | some d => K d | none => False
  rw [e]
  exact h _ (List.getElem_mem hl)
theorem ret_st {m : ME} {E : Dn} {ρ : Cs} (q : m ρ fun d ρ1 => E.rt d ρ1) : sRet m E ρ := q
theorem if1_st {t : MT} {a b : MS} {E : Dn} {ρ : Cs} (h : EvT t ρ true) (q : a { E with nx := b E } ρ) : sSeq (sIf t a sNext) b E ρ := h _ q
theorem if0_st {t : MT} {a b : MS} {E : Dn} {ρ : Cs} (h : EvT t ρ false) (q : b E ρ) : sSeq (sIf t a sNext) b E ρ := h _ q
end K05d

namespace K05d
open PySem PySem.Spec PyProof.Rows L2 Br Dl K05
abbrev ttl (home : Str) (n : Int) : D := .tuple .mad [.str home, .int n]
theorem title_s {c : Cell} {home : Str} {k : D → List Cell → Prop} (p : PL c) (h : ∀ (n : Int) (c' : Cell), PL c' → 0 ≤ n → n ≤ 99999 → k (ttl home n) [c']) : F_law_title [c, .fro (.str home)] k := by
  have s : 1000 ≤ sizeLine := by decide
  refine Fof.mk rfl ?_
  unfold b_law_title
  refine ret_st (tup_st (a_st (ev_var (d := .str home) rfl _ (a_st (op_st (lst_st (a_st (ev_c _ (a_st (ev_c _ (a_st (call_take (j := 0) (n := 100) rfl p (fun k' q => q) (by decide) (by decide) fun t c' t0 t1 p' => ?_))))))))))))
  refine (show 4 ≤ sizeLine ∧ _ from ⟨by omega, ?_⟩)
  refine call_take (j := 0) (n := 4) rfl p' (fun k' q => q) (by decide) (by decide) fun u c'' u0 u1 p'' => ?_
  have : u = 0 ∨ u = 1 ∨ u = 2 ∨ u = 3 := by omega
  rcases this with rfl | rfl | rfl | rfl
  · exact (show 2 ≤ sizeLine ∧ _ from ⟨by omega, h 0 c'' p'' (by decide) (by decide)⟩)
  · exact (show 2 ≤ sizeLine ∧ _ from ⟨by omega, h 7 c'' p'' (by decide) (by decide)⟩)
  · exact (show 2 ≤ sizeLine ∧ _ from ⟨by omega, h t c'' p'' t0 (by omega)⟩)
  · exact (show 2 ≤ sizeLine ∧ _ from ⟨by omega, h 99999 c'' p'' (by decide) (by decide)⟩)
def badD (t : D) (ks : Str) (i : Int) : List D :=
  if i = 3 then [.none, .str "x", .str "out", .int 5, .str ks] else
  if i = 4 then [.none, .int 5, .str "x\n", .tuple .mad [.int 1], .list [], .tuple .mad [.str "A", .int 1]] else
  if 4 < i then [.none, .list [.tuple .mad [.str "a", .int 1]], .tuple .mad [.tuple .frz [.str "A", .int 1]], .tuple .mad [t], .tuple .mad [.tuple .frz [.str "b", .int 1], .tuple .frz [.str "a", .int 1]], .tuple .mad [.int 1]] else
  [.none, .int 5, .str "A", .tuple .mad [.str "a"], .list [], .str "say "]
theorem bad_s {c : Cell} {t d2 d3 d4 d5 d6 : D} {ks : Str} {i : Int} {k : D → List Cell → Prop} (p : PL c) (h : ∀ x ∈ badD t ks i, ∀ c', PL c' → k x [c']) : F_law_bad [c, .fro (.tuple .mad [t, .str ks, d2, d3, d4, d5, d6]), .fro (.int i)] k := by
  have s : 1000 ≤ sizeLine := by decide
  refine Fof.mk rfl ?_
  unfold b_law_bad
  have e1 : ∀ m : Int, Ev (mOp oEq (mVar 2) (mC (.int m))) [c, .fro (.tuple .mad [t, .str ks, d2, d3, d4, d5, d6]), .fro (.int i)] (.bool (decide (i = m))) := fun m => ev_op (ev_var rfl) ev_c fun k q => q
  have e2 : Ev (mOp oGt (mVar 2) (mC (.int 4))) [c, .fro (.tuple .mad [t, .str ks, d2, d3, d4, d5, d6]), .fro (.int i)] (.bool (decide (4 < i))) := ev_op (ev_var rfl) ev_c fun k q => q
  have e3 := e1 3
  have e4 := e1 4
  have x1 : Ev (mOp oIx (mVar 1) (mC (.int 1))) [c, .fro (.tuple .mad [t, .str ks, d2, d3, d4, d5, d6]), .fro (.int i)] (.str ks) := ev_op (a := .tuple .mad [t, .str ks, d2, d3, d4, d5, d6]) (b := .int 1) (ev_var rfl) ev_c fun k q => q
  have x0 : Ev (mOp oIx (mVar 1) (mC (.int 0))) [c, .fro (.tuple .mad [t, .str ks, d2, d3, d4, d5, d6]), .fro (.int i)] t := ev_op (a := .tuple .mad [t, .str ks, d2, d3, d4, d5, d6]) (b := .int 0) (ev_var rfl) ev_c fun k q => q
  unfold badD at h
  by_cases c3 : i = 3
  · rw [decide_eq_true c3] at e3
    rw [if_pos c3] at h
    refine if1_st (evt_test e3) (ret_st (op_st (ev_lst (eva_cons ev_c (eva_cons ev_c (eva_cons ev_c (eva_cons ev_c (eva_cons x1 eva_nil))))) (Nat.le_of_ble_eq_true rfl) _ ?_)))
    exact call_take (j := 0) (n := 5) rfl p (fun k' q => q) (by decide) (by decide) fun u c' u0 u1 p' => pick u0 u1 fun x hx => h x hx c' p'
  · rw [decide_eq_false c3] at e3
    rw [if_neg c3] at h
    refine if0_st (evt_test e3) ?_
    by_cases c4 : i = 4
    · rw [decide_eq_true c4] at e4
      rw [if_pos c4] at h
      refine if1_st (evt_test e4) (ret_st (op_st (ev_lst (eva_cons ev_c (eva_cons ev_c (eva_cons ev_c (eva_cons (ev_tup (eva_cons ev_c eva_nil) (Nat.le_of_ble_eq_true rfl)) (eva_cons (ev_lst eva_nil (Nat.le_of_ble_eq_true rfl)) (eva_cons (ev_tup (eva_cons ev_c (eva_cons ev_c eva_nil)) (Nat.le_of_ble_eq_true rfl)) eva_nil)))))) (Nat.le_of_ble_eq_true rfl) _ ?_)))
      exact call_take (j := 0) (n := 6) rfl p (fun k' q => q) (by decide) (by decide) fun u c' u0 u1 p' => pick u0 u1 fun x hx => h x hx c' p'
    · rw [decide_eq_false c4] at e4
      rw [if_neg c4] at h
      refine if0_st (evt_test e4) ?_
      by_cases c5 : 4 < i
      · rw [decide_eq_true c5] at e2
        rw [if_pos c5] at h
        refine if1_st (evt_test e2) (ret_st (op_st (ev_lst (eva_cons ev_c (eva_cons (ev_lst (eva_cons (ev_tup (eva_cons ev_c (eva_cons ev_c eva_nil)) (Nat.le_of_ble_eq_true rfl)) eva_nil) (Nat.le_of_ble_eq_true rfl)) (eva_cons (ev_tup (eva_cons (ev_tupZ (eva_cons ev_c (eva_cons ev_c eva_nil)) (Nat.le_of_ble_eq_true rfl)) eva_nil) (Nat.le_of_ble_eq_true rfl)) (eva_cons (ev_tup (eva_cons x0 eva_nil) (Nat.le_of_ble_eq_true rfl)) (eva_cons (ev_tup (eva_cons (ev_tupZ (eva_cons ev_c (eva_cons ev_c eva_nil)) (Nat.le_of_ble_eq_true rfl)) (eva_cons (ev_tupZ (eva_cons ev_c (eva_cons ev_c eva_nil)) (Nat.le_of_ble_eq_true rfl)) eva_nil)) (Nat.le_of_ble_eq_true rfl)) (eva_cons (ev_tup (eva_cons ev_c eva_nil) (Nat.le_of_ble_eq_true rfl)) eva_nil)))))) (Nat.le_of_ble_eq_true rfl) _ ?_)))
        exact call_take (j := 0) (n := 6) rfl p (fun k' q => q) (by decide) (by decide) fun u c' u0 u1 p' => pick u0 u1 fun x hx => h x hx c' p'
      · rw [decide_eq_false c5] at e2
        rw [if_neg c5] at h
        refine if0_st (evt_test e2) (ret_st (op_st (ev_lst (eva_cons ev_c (eva_cons ev_c (eva_cons ev_c (eva_cons (ev_tup (eva_cons ev_c eva_nil) (Nat.le_of_ble_eq_true rfl)) (eva_cons (ev_lst eva_nil (Nat.le_of_ble_eq_true rfl)) (eva_cons ev_c eva_nil)))))) (Nat.le_of_ble_eq_true rfl) _ ?_)))
        exact call_take (j := 0) (n := 6) rfl p (fun k' q => q) (by decide) (by decide) fun u c' u0 u1 p' => pick u0 u1 fun x hx => h x hx c' p'
end K05d

namespace K05d
open PySem PySem.Spec PyProof.Rows L2 Br Dl K05
/-! the list of data and what may be looked at -/
theorem toPys_eq : ∀ ds : List D, toPys ds = ds.map toPy
  | [] => rfl
  | d :: ds => by show toPy d :: toPys ds = toPy d :: ds.map toPy; rw [toPys_eq ds]
def Ok (d : D) : Prop := (toPy d).hasDict = false ∧ K05.okD (toPy d) = true
theorem ok_all : ∀ {ds : List D}, (∀ d ∈ ds, Ok d) → PyData.hasDictAll (toPys ds) = false ∧ K05.okAll (toPys ds) = true
  | [], _ => ⟨rfl, rfl⟩
  | d :: ds, h => by
    obtain ⟨a, b⟩ := h d List.mem_cons_self
    obtain ⟨c, e⟩ := ok_all fun x hx => h x (List.mem_cons_of_mem _ hx)
    constructor
    · show (PyData.hasDict (toPy d) || PyData.hasDictAll (toPys ds)) = false
      rw [a, c]; rfl
    · show (K05.okD (toPy d) && K05.okAll (toPys ds)) = true
      rw [b, e]; rfl
theorem len_toPys (ds : List D) : (toPys ds).length = ds.length := by rw [toPys_eq, List.length_map]
theorem ok_tup {c : Tk} {ds : List D} (h : ∀ d ∈ ds, Ok d) (hl : ds.length ≤ 1000) : Ok (.tuple c ds) := by
  obtain ⟨a, b⟩ := ok_all h
  refine ⟨a, ?_⟩
  show (K05.okAll (toPys ds) && decide ((toPys ds).length ≤ 1000)) = true
  rw [b, len_toPys, decide_eq_true hl]; rfl
theorem ok_str {z : Str} (h : K05.okS z = true) : Ok (.str z) := ⟨rfl, h⟩
theorem ok_int {i : Int} : Ok (.int i) := ⟨rfl, rfl⟩
theorem ok_none : Ok .none := ⟨rfl, rfl⟩
theorem ok_nil : ∀ d ∈ ([] : List D), Ok d := fun _ z => nomatch z
theorem ok_cons {d : D} {ds : List D} (h : Ok d) (g : ∀ x ∈ ds, Ok x) : ∀ x ∈ d :: ds, Ok x := fun x hx => by
  rcases List.mem_cons.mp hx with rfl | hx
  · exact h
  · exact g x hx
theorem ok_nm {c : Tk} {x : Str} {i : Int} (h : K05.okS x = true) : Ok (.tuple c [.str x, .int i]) := ok_tup (ok_cons (ok_str h) (ok_cons ok_int ok_nil)) (Nat.le_of_ble_eq_true rfl)
/-- what a body may be -/
def Body (k : Str) (x : D) : Prop := bodyD k (toPy x) = true ∧ Ok x
def con (k : Str) : Prop := k = "begin" ∨ k = "seat" ∨ k = "door" ∨ k = "strike" ∨ k = "move"
theorem con_s {c : Cell} {ks : Str} {f t : D} {k : D → List Cell → Prop} (p : PL c) (hc : con ks) (h : ∀ x c', PL c' → Body ks x → k x [c']) : F_law_content [c, .fro (.str ks), .fro f, .fro t] k := by
  have s : 1000 ≤ sizeLine := by decide
  refine Fof.mk rfl ?_
  unfold b_law_content
  have e : ∀ m : Str, EvT (mTest (mOp oEq (mVar 1) (mC (.str m)))) [c, .fro (.str ks), .fro f, .fro t, .un, .un] (decide (ks = m)) := fun m => evt_test (ev_op (a := .str ks) (b := .str m) (ev_var rfl) ev_c fun k q => q)
  have ny : ∀ m : Str, ¬ ks = m → EvT (mTest (mOp oEq (mVar 1) (mC (.str m)))) [c, .fro (.str ks), .fro f, .fro t, .un, .un] false := fun m z => by have := e m; rwa [decide_eq_false z] at this
  have yy : ∀ m : Str, ks = m → EvT (mTest (mOp oEq (mVar 1) (mC (.str m)))) [c, .fro (.str ks), .fro f, .fro t, .un, .un] true := fun m z => by have := e m; rwa [decide_eq_true z] at this
  rcases hc with rfl | rfl | rfl | rfl | rfl
  · refine if1_st (yy _ rfl) (ret_st (tup_st (a_st (op_st (ev_c _ (call_take (j := 0) (n := 2) rfl p (fun k' q => q) (by decide) (by decide) fun u c' u0 u1 p' => ?_))))))
    refine (show aCons (mOp oIx (mLst (aCons (mC .none) (aCons (mTupZ (aCons (mC (.str "old")) (aCons (mCall F_law_take 1 (rOwn 0 (rCons (mC (.int 9)) rNil))) aNil))) aNil))) (mCall F_law_take 1 (rOwn 0 (rCons (mC (.int 2)) rNil)))) aNil [c', .fro (.str "begin"), .fro f, .fro t, .un, .un] (fun ds ρ2 => (.int (1 + u) :: ds).length ≤ sizeLine ∧ k (.tuple .mad (.int (1 + u) :: ds)) (ρ2.take 1)) from ?_)
    refine a_st (op_st (lst_st (a_st (ev_c _ (a_st (tupZ_st (a_st (ev_c _ (a_st (call_take (j := 0) (n := 9) rfl p' (fun k' q => q) (by decide) (by decide) fun v c2 v0 v1 p2 => ?_))))))))))
    refine (show 2 ≤ sizeLine ∧ 2 ≤ sizeLine ∧ _ from ⟨by omega, by omega, ?_⟩)
    refine call_take (j := 0) (n := 2) rfl p2 (fun k' q => q) (by decide) (by decide) fun x c3 x0 x1 p3 => ?_
    have r : rulesD (.int (1 + u)) = true := by
      have : u = 0 ∨ u = 1 := by omega
      rcases this with rfl | rfl <;> decide
    have : x = 0 ∨ x = 1 := by omega
    rcases this with rfl | rfl
    · refine (show 2 ≤ sizeLine ∧ _ from ⟨by omega, h _ _ p3 ⟨?_, ok_tup (ok_cons ok_int (ok_cons ok_none ok_nil)) (Nat.le_of_ble_eq_true rfl)⟩⟩)
      show (rulesD (.int (1 + u)) && (isNonD .none || nameD .none)) = true
      rw [r]; rfl
    · refine (show 2 ≤ sizeLine ∧ _ from ⟨by omega, h _ _ p3 ⟨?_, ok_tup (ok_cons ok_int (ok_cons (ok_nm (by decide +kernel)) ok_nil)) (Nat.le_of_ble_eq_true rfl)⟩⟩)
      show (rulesD (.int (1 + u)) && (false || (wordS "old" && (decide (0 ≤ v) && decide (v ≤ 99999))))) = true
      rw [r, decide_eq_true v0, decide_eq_true (by omega : v ≤ 99999)]
      decide +kernel
  · refine if0_st (ny _ (by decide)) (if1_st (yy _ rfl) (ret_st (op_st (ev_lst (eva_cons ev_c (eva_cons ev_c (eva_cons ev_c (eva_cons ev_c eva_nil)))) (Nat.le_of_ble_eq_true rfl) _ (call_take (j := 0) (n := 4) rfl p (fun k' q => q) (by decide) (by decide) fun u c' u0 u1 p' => pick u0 u1 fun x hx => h x c' p' ?_)))))
    have all : ∀ x ∈ ([.str "in", .str "out", .str "called", .str "barred"] : List D), Body "seat" x := by unfold Body Ok; decide +kernel
    exact all x hx
  · refine if0_st (ny _ (by decide)) (if0_st (ny _ (by decide)) (if0_st (ny _ (by decide)) (if1_st (yy _ rfl) (ret_st (op_st (ev_lst (eva_cons ev_c (eva_cons ev_c eva_nil)) (Nat.le_of_ble_eq_true rfl) _ (call_take (j := 0) (n := 2) rfl p (fun k' q => q) (by decide) (by decide) fun u c' u0 u1 p' => pick u0 u1 fun x hx => h x c' p' ?_)))))))
    have all : ∀ x ∈ ([.str "open", .str "asked"] : List D), Body "door" x := by unfold Body Ok; decide +kernel
    exact all x hx
  · refine if0_st (ny _ (by decide)) (if0_st (ny _ (by decide)) (if0_st (ny _ (by decide)) (if0_st (ny _ (by decide)) (if0_st (ny _ (by decide)) (if1_st (yy _ rfl) (ret_st (tup_st (a_st (op_st (ev_lst (eva_cons ev_c (eva_cons ev_c eva_nil)) (Nat.le_of_ble_eq_true rfl) _ (call_take (j := 0) (n := 2) rfl p (fun k' q => q) (by decide) (by decide) fun u c' u0 u1 p' => pick u0 u1 fun x hx => ?_)))))))))))
    refine a_st (call_take (j := 0) (n := 200) rfl p' (fun k' q => q) (by decide) (by decide) fun v c2 v0 v1 p2 => ?_)
    refine (show 2 ≤ sizeLine ∧ _ from ⟨by omega, h _ _ p2 ?_⟩)
    have all : ∀ x ∈ ([.str "a", .str "zz"] : List D), ∃ z : Str, x = .str z ∧ wordS z = true ∧ K05.okS z = true := by
      intro x hx
      rcases List.mem_cons.mp hx with rfl | hx
      · exact ⟨_, rfl, by decide +kernel, by decide +kernel⟩
      · exact ⟨"zz", List.mem_singleton.mp hx, by decide +kernel, by decide +kernel⟩
    obtain ⟨z, rfl, hw, ho⟩ := all x hx
    refine ⟨?_, ok_nm ho⟩
    have eb : bodyD "strike" (toPy (.tuple .mad [.str z, .int v])) = (wordS z && (decide (0 ≤ v) && decide (v ≤ 99999))) := by
      unfold bodyD
      rw [if_neg (by decide), if_neg (by decide), if_neg (by decide), if_neg (by decide), if_neg (by decide), if_pos rfl]
      rfl
    rw [eb, hw, decide_eq_true v0, decide_eq_true (by omega : v ≤ 99999)]
    rfl
  · refine if0_st (ny _ (by decide)) (if0_st (ny _ (by decide)) (if0_st (ny _ (by decide)) (if0_st (ny _ (by decide)) (if0_st (ny _ (by decide)) (if0_st (ny _ (by decide)) (ret_st (op_st (ev_c _ (call_take (j := 0) (n := 2) rfl p (fun k' q => q) (by decide) (by decide) fun u c' u0 u1 p' => h _ _ p' ?_)))))))))
    have : u = 0 ∨ u = 1 := by omega
    rcases this with rfl | rfl <;> exact ⟨by decide +kernel, ok_int⟩
end K05d

namespace K05d
open PySem PySem.Spec PyProof.Rows L2 Br Dl K05
abbrev sg : Str := "abz 09!~-:;,=@"
def sign (z : Str) : Prop := ∀ c ∈ z.cps.toList, 32 ≤ c ∧ c ≤ 126
theorem sg_at {r : Int} (h0 : 0 ≤ r) (h1 : r < 14) : ∃ c, atI sg.cps.toList r = some c ∧ (32 ≤ c ∧ c ≤ 126) := by
  have hl : sg.cps.toList.length = 14 := by decide +kernel
  have e : ((r.toNat : Nat) : Int) = r := Int.toNat_of_nonneg h0
  refine ⟨sg.cps.toList[r.toNat]'(by omega), ?_⟩
  have q : atI sg.cps.toList ((r.toNat : Nat) : Int) = some _ := atI_nat (List.getElem?_eq_getElem (by omega))
  rw [e] at q
  have all : ∀ c ∈ sg.cps.toList, 32 ≤ c ∧ c ≤ 126 := by decide +kernel
  exact ⟨q, all _ (List.getElem_mem _)⟩
theorem sign_join {ys : List Str} (h : ∀ y ∈ ys, y.length = 1 ∧ sign y) : sign (Str.join "" ys) := fun c hc => by
  rw [join_flat] at hc
  obtain ⟨l, hl, hcl⟩ := List.mem_flatten.mp hc
  obtain ⟨y, hy, rfl⟩ := List.mem_map.mp hl
  exact (h y hy).2 c hcl
theorem signs_len : ∀ {ys : List Str}, (∀ y ∈ ys, y.length = 1 ∧ sign y) → ((ys.map fun y => y.cps.toList).flatten).length = ys.length ∧ (ys.map (·.length)).sum = ys.length
  | [], _ => ⟨rfl, rfl⟩
  | y :: ys, h => by
    obtain ⟨i1, i2⟩ := signs_len fun z hz => h z (List.mem_cons_of_mem _ hz)
    have := (h y List.mem_cons_self).1
    have e : y.cps.toList.length = y.length := Array.length_toList
    rw [List.map_cons, List.flatten_cons, List.length_append, i1, List.length_cons, List.map_cons, List.sum_cons, i2]
    exact ⟨by omega, by omega⟩
theorem signs_L {a1 a2 a3 : Cell} {K : List D → Cs → Prop} : ∀ (xs : List D) (ys : List Str) (c : Cell), PL c → (∀ y ∈ ys, y.length = 1 ∧ sign y) →
    (∀ (ys' : List Str) (c' : Cell), PL c' → ys'.length = ys.length + xs.length → (∀ y ∈ ys', y.length = 1 ∧ sign y) → K (ys'.map .str) [c', a1, a2, a3, .fro (.str sg), .un]) →
    mLcL (mgName 5) mYes (mOp oIx (mVar 4) (mCall F_law_take 1 (rOwn 0 (rCons (mC (.int 14)) rNil)))) [5] K xs (ys.map .str) [c, a1, a2, a3, .fro (.str sg), .un]
  | [], ys, c, p, hy, h => h ys c p rfl hy
  | x :: xs, ys, c, p, hy, h => by
    refine lcL_yes (op_var rfl ?_)
    refine call_take rfl p (fun _ z => z) (by decide) (by decide) fun t c' t0 t1 pc => ?_
    obtain ⟨s, hs, h8⟩ := sg_at t0 t1
    show _ ∧ _
    refine ⟨by decide, ?_⟩
    show match atI sg.cps.toList t with | some c => _ | none => False
    rw [hs]
    show mLcL _ _ _ _ K xs (ys.map D.str ++ [.str ⟨#[s]⟩]) _
    have e : ys.map D.str ++ [.str ⟨#[s]⟩] = (ys ++ [(⟨#[s]⟩ : Str)]).map D.str := by rw [List.map_append]; rfl
    rw [e]
    refine signs_L xs (ys ++ [⟨#[s]⟩]) c' pc (fun y my => ?_) (fun ys' c2 p2 l2 => h ys' c2 p2 (by rw [l2, List.length_append, List.length_cons, List.length_cons, List.length_nil]; omega))
    rcases List.mem_append.mp my with z | z
    · exact hy y z
    · rw [List.mem_singleton.mp z]
      exact ⟨rfl, fun d hd => by rw [List.mem_singleton.mp hd]; exact h8⟩
theorem say_body {z : Str} (h : sign z) (hl : z.length ≤ 80) : Body "say" (.str z) := by
  have e : bodyD "say" (.str z) = (decide (z.length ≤ 80) && z.cps.toList.all signC) := by
    unfold bodyD
    rw [if_neg (by decide), if_neg (by decide), if_neg (by decide), if_neg (by decide), if_pos rfl]
    rfl
  refine ⟨?_, ok_str (okS_mk (by omega) fun c hc => by have := h c hc; omega)⟩
  show bodyD "say" (.str z) = true
  rw [e, decide_eq_true hl]
  show z.cps.toList.all signC = true
  exact List.all_eq_true.mpr fun c hc => by unfold signC; rw [decide_eq_true (h c hc).1, decide_eq_true (h c hc).2]; rfl
theorem join_st {x : Str} {mb : ME} {ρ : Cs} {k : D → Cs → Prop} (q : mb ρ fun db ρ2 => match (seqOf db).bind strsOf with | some ys => (ys.map (·.length)).sum + ys.length * x.length ≤ 16777216 ∧ k (.str (Txt.join x ys)) ρ2 | none => False) : mJoin (mC (.str x)) mb ρ k := q
theorem lc_st {mi : MI} {mg : MG} {mt : MT} {me : ME} {vs : List Nat} {ρ : Cs} {k : D → Cs → Prop} (q : mi ρ fun xs ρ1 => xs.length ≤ sizeLine ∧ mLcL mg mt me vs (fun ds ρ2 => k (.list ds) ρ2) xs [] (wipeC ρ1 vs)) : mLc mi mg mt me vs ρ k := q
theorem rng_st {m : MA} {ρ : Cs} {k : List D → Cs → Prop} (q : m ρ fun ds ρ1 => match ds with | [.int j] => -(2 ^ 62) ≤ j ∧ j < 2 ^ 62 ∧ k (intsD 0 j.toNat) ρ1 | _ => False) : mRng1 m ρ k := q
theorem say_s {c : Cell} {f t : D} {k : D → List Cell → Prop} (p : PL c) (h : ∀ x c', PL c' → Body "say" x → k x [c']) : F_law_content [c, .fro (.str "say"), .fro f, .fro t] k := by
  have s : 1000 ≤ sizeLine := by decide
  refine Fof.mk rfl ?_
  unfold b_law_content
  have e : ∀ m : Str, EvT (mTest (mOp oEq (mVar 1) (mC (.str m)))) [c, .fro (.str "say"), .fro f, .fro t, .un, .un] (decide ("say" = m)) := fun m => evt_test (ev_op (a := .str "say") (b := .str m) (ev_var rfl) ev_c fun k q => q)
  have ny : ∀ m : Str, ¬ "say" = m → EvT (mTest (mOp oEq (mVar 1) (mC (.str m)))) [c, .fro (.str "say"), .fro f, .fro t, .un, .un] false := fun m z => by have := e m; rwa [decide_eq_false z] at this
  have yy : EvT (mTest (mOp oEq (mVar 1) (mC (.str "say")))) [c, .fro (.str "say"), .fro f, .fro t, .un, .un] true := by have := e "say"; rwa [decide_eq_true rfl] at this
  refine if0_st (ny _ (by decide)) (if0_st (ny _ (by decide)) (if0_st (ny _ (by decide)) (if0_st (ny _ (by decide)) (if1_st yy (set_ev ev_c (ret_st ?_))))))
  refine join_st (lc_st (rng_st (a_st (op_st (call_take (j := 0) (n := 3) rfl p (fun k' q => q) (by decide) (by decide) fun u c' u0 u1 p' => ?_)))))
  refine call_take (j := 0) (n := 8) rfl p' (fun k' q => q) (by decide) (by decide) fun v c2 v0 v1 p2 => ?_
  have uv : 0 ≤ u * v ∧ u * v ≤ 14 := by
    have : u = 0 ∨ u = 1 ∨ u = 2 := by omega
    rcases this with rfl | rfl | rfl <;> omega
  generalize hw : u * v = w at uv
  have ln : (intsD 0 w.toNat).length = w.toNat := by unfold intsD; rw [List.length_map, List.length_range]
  refine (show ((-(2 ^ 64) < u ∧ u < 2 ^ 64) ∨ (-(2 ^ 64) < v ∧ v < 2 ^ 64)) ∧ -(2 ^ 62) ≤ u * v ∧ u * v < 2 ^ 62 ∧ (intsD 0 (u * v).toNat).length ≤ sizeLine ∧ mLcL (mgName 5) mYes (mOp oIx (mVar 4) (mCall F_law_take 1 (rOwn 0 (rCons (mC (.int 14)) rNil)))) [5] _ (intsD 0 (u * v).toNat) (([] : List Str).map .str) [c2, .fro (.str "say"), .fro f, .fro t, .fro (.str sg), .un] from ?_)
  rw [hw]
  refine ⟨.inl ⟨by omega, by omega⟩, by omega, by omega, by omega, ?_⟩
  refine signs_L (intsD 0 w.toNat) [] c2 p2 (fun _ z => nomatch z) fun ys c3 p3 l hy => ?_
  obtain ⟨o1, o2⟩ := signs_len hy
  have ey : (seqOf (.list (ys.map D.str))).bind strsOf = some ys := strsOf_map ys
  show match (seqOf (.list (ys.map D.str))).bind strsOf with | some ys => _ | none => False
  rw [ey]
  rw [ln] at l
  have l' : ys.length = w.toNat := by simpa using l
  have ej : Txt.join "" ys = Str.join "" ys := StrLaws.glued_eq_join ..
  have lj : (Str.join "" ys).length = ys.length := by rw [← o1, ← join_flat]; exact Array.length_toList.symm
  refine ⟨?_, ?_⟩
  · show (ys.map (·.length)).sum + ys.length * 0 ≤ 16777216
    omega
  · refine h _ c3 p3 ?_
    rw [ej]
    exact say_body (sign_join hy) (by omega)
end K05d

namespace K05d
open PySem PySem.Spec PyProof.Rows L2 Br Dl K05
theorem names_no {own : PyData} {xs : List PyData} (h : (xs.all (fun x => nameD x && !PyData.eqv x own) && riseN (xs.map nmOf)) = false) (hn : xs ≠ []) {kb : Bool} : namesD kb own (.tuple xs) = false := by
  show (decide (xs.length ≤ 6) && (decide (kb = decide (xs.length = 0)) && (xs.all (fun x => nameD x && !PyData.eqv x own) && riseN (xs.map nmOf)))) = false
  rw [h, Bool.and_false, Bool.and_false]
theorem eqv_own {own : PyData} (h : nameD own = true) : PyData.eqv own own = true := by
  obtain ⟨z, i, rfl⟩ := name_form h
  simp [PyData.eqv, PyData.eqvAll]
theorem bad56 {own : PyData} (h : nameD own = true) {kb : Bool} : ∀ x ∈ bad56L own, namesD kb own x = false := by
  intro x hx
  unfold bad56L at hx
  simp only [List.mem_cons, List.not_mem_nil, or_false] at hx
  have hA : nameD (.tuple [.str "A", .int 1]) = false := by decide +kernel
  have h1 : nameD (.int 1) = false := by decide +kernel
  rcases hx with rfl | rfl | rfl | rfl | rfl | rfl
  · rfl
  · rfl
  · refine names_no ?_ (by simp)
    simp [hA]
  · refine names_no ?_ (by simp)
    simp [eqv_own h]
  · refine names_no ?_ (by simp)
    have : riseN (([.tuple [.str "b", .int 1], .tuple [.str "a", .int 1]] : List PyData).map nmOf) = false := by decide +kernel
    rw [this, Bool.and_false]
  · refine names_no ?_ (by simp)
    simp [h1]
theorem rise_pw : ∀ {ns : List (Str × Int)}, ns.Pairwise (fun x y => ltN x y = true) → riseN ns = true
  | [], _ => rfl
  | [x], _ => rfl
  | x :: y :: r, h => by
    have h1 := (List.pairwise_cons.mp h).1 y List.mem_cons_self
    have h2 := rise_pw (List.pairwise_cons.mp h).2
    show (ltN x y && riseN (y :: r)) = true
    rw [h1, h2]
    rfl
end K05d

namespace K05d
open PySem PySem.Spec PyProof.Rows L2 Br Dl K05
/-! names as data -/
def tn (p : Str × Int) : D := .tuple .mad [.str p.1, .int p.2]
theorem eqd_tn {p q : Str × Int} : eqd (tn p) (tn q) = decide (p = q) := by
  have e : eqd (tn p) (tn q) = ((p.1 == q.1) && ((p.2 == q.2) && true)) := by
    unfold eqd tn
    simp only [toPy, toPys, PyData.eqv, PyData.eqvAll]
  rw [e, Bool.eq_iff_iff]
  simp [Prod.ext_iff]
theorem any_tn {p : Str × Int} (ns : List (Str × Int)) : ((ns.map tn).any fun z => eqd z (tn p)) = decide (p ∈ ns) := by
  rw [Bool.eq_iff_iff]
  simp only [List.any_map, List.any_eq_true, Function.comp, decide_eq_true_eq]
  constructor
  · rintro ⟨x, hx, e⟩
    rw [eqd_tn, decide_eq_true_eq] at e
    exact e ▸ hx
  · intro h
    exact ⟨p, h, by rw [eqd_tn, decide_eq_true_eq]⟩
/-- names as the law draws them -/
def Gd (home : Str) (n : Int) (p : Str × Int) : Prop := wordS p.1 = true ∧ K05.okS p.1 = true ∧ 0 ≤ p.2 ∧ p.2 < 100 ∧ p ≠ (home, n)
structure Gs (home : Str) (n : Int) (ns : List (Str × Int)) : Prop where
  g : ∀ p ∈ ns, Gd home n p
  u : ns.Nodup
theorem Gs.names {home : Str} {n : Int} {ns : List (Str × Int)} (h : Gs home n ns) (h1 : ns ≠ []) (h6 : ns.length ≤ 6) (hr : riseN ns = true) : namesD false (.tuple [.str home, .int n]) (.tuple (ns.map fun p => toPy (tn p))) = true := by
  show (decide ((ns.map fun p => toPy (tn p)).length ≤ 6) && (decide (false = decide ((ns.map fun p => toPy (tn p)).length = 0)) && ((ns.map fun p => toPy (tn p)).all (fun x => nameD x && !PyData.eqv x (.tuple [.str home, .int n])) && riseN ((ns.map fun p => toPy (tn p)).map nmOf)))) = true
  have l0 : ¬ (ns.map fun p => toPy (tn p)).length = 0 := by
    rw [List.length_map]
    exact fun z => h1 (List.length_eq_zero_iff.mp z)
  have em : (ns.map fun p => toPy (tn p)).map nmOf = ns := by
    rw [List.map_map]
    conv => rhs; rw [← List.map_id ns]
    exact List.map_congr_left fun p _ => rfl
  have ea : (ns.map fun p => toPy (tn p)).all (fun x => nameD x && !PyData.eqv x (.tuple [.str home, .int n])) = true := by
    rw [List.all_eq_true]
    intro x hx
    obtain ⟨p, hp, rfl⟩ := List.mem_map.mp hx
    obtain ⟨w, _, a, b, ne⟩ := h.g p hp
    have e1 : nameD (toPy (tn p)) = (wordS p.1 && (decide (0 ≤ p.2) && decide (p.2 ≤ 99999))) := rfl
    have e2 : PyData.eqv (toPy (tn p)) (.tuple [.str home, .int n]) = decide (p = (home, n)) := eqd_tn (q := (home, n))
    rw [e1, e2, w, decide_eq_true a, decide_eq_true (by omega : p.2 ≤ 99999), decide_eq_false ne]
    rfl
  rw [em, ea, hr, decide_eq_false l0, decide_eq_true (by rw [List.length_map]; exact h6)]
  rfl
end K05d

namespace K05d
open PySem PySem.Spec PyProof.Rows L2 Br Dl K05
theorem shp_tn {p : Str × Int} (h : PyData.strOk p.1 = true) : shp (tn p) := by
  unfold shp tn
  simp [SeqAt.shaped, toPy, toPys, PyData.canLay0, PyData.canLayAll0, PyData.depth, PyData.depthAll, h]
theorem lay_tns : ∀ {ns : List (Str × Int)}, (∀ p ∈ ns, PyData.strOk p.1 = true) → PyData.canLayAll0 (toPys (ns.map tn)) = true ∧ PyData.depthAll (toPys (ns.map tn)) ≤ 1
  | [], _ => ⟨rfl, Nat.zero_le _⟩
  | p :: ns, h => by
    obtain ⟨a, b⟩ := lay_tns fun q hq => h q (List.mem_cons_of_mem _ hq)
    have hp := h p List.mem_cons_self
    constructor
    · show (PyData.canLay0 (toPy (tn p)) && PyData.canLayAll0 (toPys (ns.map tn))) = true
      rw [a]
      simp [tn, toPy, toPys, PyData.canLay0, PyData.canLayAll0, hp]
    · show max (PyData.depth (toPy (tn p))) (PyData.depthAll (toPys (ns.map tn))) ≤ 1
      have : PyData.depth (toPy (tn p)) ≤ 1 := by simp [tn, toPy, toPys, PyData.depth, PyData.depthAll]
      omega
theorem shp_tns {ns : List (Str × Int)} (h : ∀ p ∈ ns, PyData.strOk p.1 = true) : shp (.list (ns.map tn)) := by
  obtain ⟨a, b⟩ := lay_tns h
  show (PyData.canLayAll0 (toPys (ns.map tn)) && decide (PyData.depthAll (toPys (ns.map tn)) + 1 ≤ 64)) = true
  rw [a, decide_eq_true (by omega : PyData.depthAll (toPys (ns.map tn)) + 1 ≤ 64)]
  rfl
end K05d

namespace K05d
open PySem PySem.Spec PyProof.Rows L2 Br Dl K05
def tl_one : ME := (mTup (aCons (mOp oIx (mLst (aCons (mC (.str "a")) (aCons (mC (.str "b")) (aCons (mC (.str "zz")) (aCons (mOp oIx (mVar 1) (mC (.int 0))) aNil))))) (mCall F_law_take 1 (rOwn 0 (rCons (mC (.int 4)) rNil)))) (aCons (mCall F_law_take 1 (rOwn 0 (rCons (mC (.int 12)) rNil))) aNil)))
def tl_if : MS := (sIf (mAnd (mTest (mOp oNe (mVar 5) (mVar 1))) (mTest (mOp (oIn true) (mVar 5) (mOwn 3)))) (sAppend 3 (mVar 5)) sNext)
def tl_body : MS := sSeq (sSet 5 tl_one) tl_if
def tl_last : MS := (sSeq (sIf (mTest (mOpO oEq 3 (mLst aNil))) (sAppend 3 (mTup (aCons (mOp oAdd (mC (.str "q")) (mSlice (mOp oIx (mVar 1) (mC (.int 0))) pNo (pSome (mC (.int 7))))) (aCons (mC (.int 3)) aNil)))) sNext) (sRet (mUn oTupOf (mUn oSorted_pairs (mOwn 3)))))
theorem titles_eq : b_law_titles = (sSeq (sSetO 3 (mLst aNil)) (sSeq (sFor (mRng1 (aCons (mOp oAdd (mC (.int 1)) (mCall F_law_take 1 (rOwn 0 (rCons (mVar 2) rNil)))) aNil)) (mgName 4) tl_body) tl_last)) := rfl
/-- a text that may be the house of a name -/
structure Hw (z : Str) : Prop where
  w : wordS z = true
  o : K05.okS z = true
  s : PyData.strOk z = true
section
variable {home : Str} {n m : Int} (hw : Hw home)
include hw
theorem tl_one_s {c x4 x5 : Cell} {l : Cell} {k : D → Cs → Prop} (p : PL c) (h : ∀ (q : Str × Int) (c' : Cell), PL c' → Hw q.1 → 0 ≤ q.2 → q.2 < 12 → k (tn q) [c', .fro (ttl home n), .fro (.int m), l, x4, x5]) : tl_one [c, .fro (ttl home n), .fro (.int m), l, x4, x5] k := by
  have s : 1000 ≤ sizeLine := by decide
  have x0 : Ev (mOp oIx (mVar 1) (mC (.int 0))) [c, .fro (ttl home n), .fro (.int m), l, x4, x5] (.str home) := ev_op (a := ttl home n) (b := .int 0) (ev_var rfl) ev_c fun k q => q
  unfold tl_one
  refine tup_st (a_st (op_st (ev_lst (eva_cons ev_c (eva_cons ev_c (eva_cons ev_c (eva_cons x0 eva_nil)))) (Nat.le_of_ble_eq_true rfl) _ (call_take (j := 0) (n := 4) rfl p (fun k' q => q) (by decide) (by decide) fun u c' u0 u1 p' => pick u0 u1 fun x hx => ?_))))
  refine a_st (call_take (j := 0) (n := 12) rfl p' (fun k' q => q) (by decide) (by decide) fun v c2 v0 v1 p2 => ?_)
  have all : ∃ z : Str, x = .str z ∧ Hw z := by
    simp only [List.mem_cons, List.not_mem_nil, or_false] at hx
    rcases hx with rfl | rfl | rfl | rfl
    · exact ⟨_, rfl, by decide +kernel, by decide +kernel, by decide +kernel⟩
    · exact ⟨_, rfl, by decide +kernel, by decide +kernel, by decide +kernel⟩
    · exact ⟨_, rfl, by decide +kernel, by decide +kernel, by decide +kernel⟩
    · exact ⟨_, rfl, hw⟩
  obtain ⟨z, rfl, hz⟩ := all
  exact (show 2 ≤ sizeLine ∧ _ from ⟨by omega, h (z, v) c2 p2 hz v0 v1⟩)
theorem tl_if_s {E : Dn} {c x4 : Cell} {ns : List (Str × Int)} {q : Str × Int} (hq : Hw q.1) (hl : ns.length < 100) (hs : ∀ p ∈ ns, PyData.strOk p.1 = true)
    (h0 : E.nx [c, .fro (ttl home n), .fro (.int m), .own (.list (ns.map tn)), x4, .fro (tn q)]) (h1 : q ≠ (home, n) → q ∉ ns → E.nx [c, .fro (ttl home n), .fro (.int m), .own (.list ((ns ++ [q]).map tn)), x4, .fro (tn q)]) :
    tl_if E [c, .fro (ttl home n), .fro (.int m), .own (.list (ns.map tn)), x4, .fro (tn q)] := by
  have s : 1000 ≤ sizeLine := by decide
  have t1 : EvT (mTest (mOp oNe (mVar 5) (mVar 1))) [c, .fro (ttl home n), .fro (.int m), .own (.list (ns.map tn)), x4, .fro (tn q)] (!decide (q = (home, n))) := evt_test (ev_op (a := tn q) (b := tn (home, n)) (ev_var rfl) (ev_var rfl) fun k z => ⟨shp_tn hq.s, shp_tn hw.s, by rw [eqd_tn]; exact z⟩)
  have eo : Ev (mOwn 3) [c, .fro (ttl home n), .fro (.int m), .own (.list (ns.map tn)), x4, .fro (tn q)] (.list (ns.map tn)) := fun k z => z
  have t2 : EvT (mTest (mOp (oIn true) (mVar 5) (mOwn 3))) [c, .fro (ttl home n), .fro (.int m), .own (.list (ns.map tn)), x4, .fro (tn q)] (decide (q ∈ ns) != true) := evt_test (ev_op (a := tn q) (ev_var rfl) eo fun k z => by
    have y : shp (tn q) ∧ shp (.list (ns.map tn)) ∧ k (.bool (((ns.map tn).any fun z => eqd z (tn q)) != true)) := ⟨shp_tn hq.s, shp_tns hs, by rw [any_tn]; exact z⟩
    exact y)
  unfold tl_if
  by_cases e : q = (home, n)
  · rw [decide_eq_true e] at t1
    exact evt_and0 t1 _ h0
  · rw [decide_eq_false e] at t1
    by_cases i : q ∈ ns
    · rw [decide_eq_true i] at t2
      exact evt_and1 t1 t2 _ h0
    · rw [decide_eq_false i] at t2
      refine evt_and1 t1 t2 _ ?_
      refine (show (∃ xs, D.list (ns.map tn) = .list xs) ∧ (ns.map tn).length < sizeLine ∧ E.nx [c, .fro (ttl home n), .fro (.int m), .own (.list (ns.map tn ++ [tn q])), x4, .fro (tn q)] from ⟨⟨_, rfl⟩, by rw [List.length_map]; omega, ?_⟩)
      have := h1 e i
      rwa [List.map_append] at this
end
end K05d

namespace K05d
open PySem PySem.Spec PyProof.Rows L2 Br Dl K05
section
variable {home : Str} {n m : Int} (hw : Hw home)
include hw
theorem tl_L {E : Dn} : ∀ (xs : List D) (c x4 x5 : Cell) (ns : List (Str × Int)), PL c → Gs home n ns → (∀ p ∈ ns, PyData.strOk p.1 = true) → ns.length + xs.length ≤ 6 →
    (∀ (c' x4 x5 : Cell) (ns' : List (Str × Int)), PL c' → Gs home n ns' → (∀ p ∈ ns', PyData.strOk p.1 = true) → ns'.length ≤ 6 → E.nx [c', .fro (ttl home n), .fro (.int m), .own (.list (ns'.map tn)), x4, x5]) →
    sForL (mgName 4) tl_body E xs [c, .fro (ttl home n), .fro (.int m), .own (.list (ns.map tn)), x4, x5]
  | [], c, x4, x5, ns, p, g, hs, hl, h => h c x4 x5 ns p g hs (by simpa using hl)
  | x :: xs, c, x4, x5, ns, p, g, hs, hl, h => by
    have hl' : ns.length + (xs.length + 1) ≤ 6 := hl
    refine (show tl_body _ [c, .fro (ttl home n), .fro (.int m), .own (.list (ns.map tn)), .fro x, x5] from ?_)
    refine seq_set' (tl_one_s hw p fun q c' p' hq q0 q1 => ?_)
    refine (tl_if_s hw hq (by omega) hs ?_ ?_ : tl_if _ [c', .fro (ttl home n), .fro (.int m), .own (.list (ns.map tn)), .fro x, .fro (tn q)])
    · exact tl_L xs c' _ _ ns p' g hs (by omega) h
    · intro ne ni
      refine tl_L xs c' _ _ (ns ++ [q]) p' ⟨fun y hy => ?_, ?_⟩ (fun y hy => ?_) (by rw [List.length_append, List.length_singleton]; omega) h
      · rcases List.mem_append.mp hy with z | z
        · exact g.g y z
        · rw [List.mem_singleton.mp z]
          exact ⟨hq.w, hq.o, q0, by omega, ne⟩
      · rw [List.nodup_append]
        exact ⟨g.u, by simp, fun a ha b hb => by rw [List.mem_singleton.mp hb]; exact fun e => ni (e ▸ ha)⟩
      · rcases List.mem_append.mp hy with z | z
        · exact hs y z
        · rw [List.mem_singleton.mp z]
          exact hq.s
end
end K05d

namespace K05d
open PySem PySem.Spec PyProof.Rows L2 Br Dl K05
theorem ltN_tri {p q : Str × Int} (h : ltN p q = false) (g : ltN q p = false) : p = q := by
  obtain ⟨x, n⟩ := p
  obtain ⟨y, m⟩ := q
  rw [← raw_lt] at h g
  have h' : (decide (x.cps.toList < y.cps.toList) || (!decide (y.cps.toList < x.cps.toList) && (decide (n < m) || (!decide (m < n) && false)))) = false := h
  have g' : (decide (y.cps.toList < x.cps.toList) || (!decide (x.cps.toList < y.cps.toList) && (decide (m < n) || (!decide (n < m) && false)))) = false := g
  by_cases a : x.cps.toList < y.cps.toList
  · simp [a] at h'
  · by_cases b : y.cps.toList < x.cps.toList
    · simp [b] at g'
    · have e : x = y := by
        have h3 : y.cps.toList ≤ x.cps.toList := List.not_lt.mp a
        rcases Std.le_iff_lt_or_eq.mp h3 with z | z
        · exact absurd z b
        · exact str_ext z.symm
      rw [decide_eq_false a, decide_eq_false b] at h' g'
      have h2 : ¬ n < m := fun z => by rw [decide_eq_true z] at h'; cases h'
      have g2 : ¬ m < n := fun z => by rw [decide_eq_true z] at g'; cases g'
      have : n = m := by omega
      rw [e, this]
theorem sort_tn {ns : List (Str × Int)} (u : ns.Nodup) {k : D → Prop} (h : ∀ ns' : List (Str × Int), ns'.Perm ns → ns'.Pairwise (fun x y => ltN x y = true) → k (.list (ns'.map tn))) : oSorted_pairs (.list (ns.map tn)) k := by
  refine ⟨List.all_eq_true.mpr fun d hd => ?_, fun ds' pm pw => ?_⟩
  · obtain ⟨p, _, rfl⟩ := List.mem_map.mp hd
    rfl
  · have all : ∀ d ∈ ds', ∃ p, d = tn p := fun d hd => by
      obtain ⟨p, _, rfl⟩ := List.mem_map.mp (pm.mem_iff.mp hd)
      exact ⟨p, rfl⟩
    have e : (ds'.map prOf).map tn = ds' := by
      rw [List.map_map]
      conv => rhs; rw [← List.map_id ds']
      exact List.map_congr_left fun d hd => by
        obtain ⟨p, rfl⟩ := all d hd
        rfl
    have pm' : (ds'.map prOf).Perm ns := by
      have := pm.map prOf
      rw [List.map_map] at this
      have i : ns.map (prOf ∘ tn) = ns := by
        conv => rhs; rw [← List.map_id ns]
        exact List.map_congr_left fun p _ => rfl
      rwa [i] at this
    have u' : (ds'.map prOf).Nodup := pm'.nodup_iff.mpr u
    rw [← e]
    refine h _ pm' ?_
    have pw' : (ds'.map prOf).Pairwise (fun x y => ltN y x = false) := List.pairwise_map.mpr pw
    refine (pw'.and u').imp fun {x y} z => ?_
    cases hh : ltN x y with
    | true => rfl
    | false => exact absurd (ltN_tri hh z.1) z.2
end K05d

namespace K05d
open PySem PySem.Spec PyProof.Rows L2 Br Dl K05
section
variable {home : Str} {n m : Int} (hw : Hw home)
include hw
theorem tl_end_s {E : Dn} {c x4 x5 : Cell} {ns : List (Str × Int)} (g : Gs home n ns) (hk : ∀ ns' : List (Str × Int), ns'.Perm ns → riseN ns' = true → Gs home n ns' → E.rt (.tuple .frz (ns'.map tn)) [c, .fro (ttl home n), .fro (.int m), .own (.list (ns.map tn)), x4, x5]) :
    sRet (mUn oTupOf (mUn oSorted_pairs (mOwn 3))) E [c, .fro (ttl home n), .fro (.int m), .own (.list (ns.map tn)), x4, x5] := by
  refine (show oSorted_pairs (.list (ns.map tn)) (fun d => oTupOf d fun d' => E.rt d' [c, .fro (ttl home n), .fro (.int m), .own (.list (ns.map tn)), x4, x5]) from ?_)
  refine sort_tn g.u fun ns' pm pw => ?_
  exact hk ns' pm (rise_pw pw) ⟨fun p hp => g.g p (pm.mem_iff.mp hp), pm.nodup_iff.mpr g.u⟩
theorem tl_last_s {E : Dn} {c x4 x5 : Cell} {ns : List (Str × Int)} (hh : home.length ≤ 3) (hq : Hw ("q" ++ home)) (g : Gs home n ns) (hs : ∀ p ∈ ns, PyData.strOk p.1 = true) (hl : ns.length ≤ 6)
    (hk : ∀ (ns' : List (Str × Int)) (cs : Cs), ns' ≠ [] → ns'.length ≤ 6 → riseN ns' = true → Gs home n ns' → E.rt (.tuple .frz (ns'.map tn)) (c :: cs)) :
    tl_last E [c, .fro (ttl home n), .fro (.int m), .own (.list (ns.map tn)), x4, x5] := by
  have s : 1000 ≤ sizeLine := by decide
  have t : EvT (mTest (mOpO oEq 3 (mLst aNil))) [c, .fro (ttl home n), .fro (.int m), .own (.list (ns.map tn)), x4, x5] (decide (ns = [])) := fun k q => by
    have e : eqd (.list (ns.map tn)) (.list []) = decide (ns = []) := by
      cases ns with
      | nil => rfl
      | cons p r => rfl
    refine (show 0 ≤ sizeLine ∧ shp (.list (ns.map tn)) ∧ shp (.list []) ∧ k (eqd (.list (ns.map tn)) (.list [])) _ from ⟨Nat.zero_le _, shp_tns hs, shp_tns (ns := []) (fun _ z => nomatch z), ?_⟩)
    rw [e]
    exact q
  by_cases e : ns = []
  · subst e
    refine if1_st t ?_
    have l1 : ("q" : Str).length = 1 := by decide
    have x0 : Ev (mOp oIx (mVar 1) (mC (.int 0))) [c, .fro (ttl home n), .fro (.int m), .own (.list (([] : List (Str × Int)).map tn)), x4, x5] (.str home) := ev_op (a := ttl home n) (b := .int 0) (ev_var rfl) ev_c fun k q => q
    have ec : cutS home none (some 7) = home := by
      refine str_ext ?_
      unfold cutS
      show List.take (min 7 home.length - 0) home.cps.toList = home.cps.toList
      have : home.cps.toList.length = home.length := Array.length_toList
      exact List.take_of_length_le (by omega)
    have x1 : Ev (mSlice (mOp oIx (mVar 1) (mC (.int 0))) pNo (pSome (mC (.int 7)))) [c, .fro (ttl home n), .fro (.int m), .own (.list (([] : List (Str × Int)).map tn)), x4, x5] (.str home) := fun k q => x0 _ ⟨by omega, by rw [ec]; exact q⟩
    have x2 : Ev (mOp oAdd (mC (.str "q")) (mSlice (mOp oIx (mVar 1) (mC (.int 0))) pNo (pSome (mC (.int 7))))) [c, .fro (ttl home n), .fro (.int m), .own (.list (([] : List (Str × Int)).map tn)), x4, x5] (.str ("q" ++ home)) := ev_op ev_c x1 fun k q => ⟨by omega, q⟩
    have x3 := ev_tup (eva_cons x2 (eva_cons (ev_c (d := .int 3)) eva_nil)) (Nat.le_of_ble_eq_true rfl)
    refine ⟨⟨_, rfl⟩, x3 _ ⟨(by show 0 < sizeLine; omega), ?_⟩⟩
    have g' : Gs home n [("q" ++ home, 3)] := ⟨fun p hp => by
      rw [List.mem_singleton.mp hp]
      refine ⟨hq.w, hq.o, (by decide : (0 : Int) ≤ 3), (by decide : (3 : Int) < 100), fun z => ?_⟩
      have z1 : "q" ++ home = home := (Prod.mk.inj z).1
      have z2 := congrArg Str.length z1
      have z3 : ("q" ++ home).length = ("q" : Str).length + home.length := Str.length_append ..
      omega, by simp⟩
    refine tl_end_s hw (ns := [("q" ++ home, 3)]) g' fun ns' pm r gg => hk ns' _ (fun z => ?_) (by rw [pm.length_eq]; exact Nat.le_of_ble_eq_true rfl) r gg
    subst z
    exact absurd pm.length_eq (by simp)
  · rw [decide_eq_false e] at t
    refine if0_st t (tl_end_s hw g fun ns' pm r gg => hk ns' _ (fun z => ?_) (by rw [pm.length_eq]; exact hl) r gg)
    subst z
    exact e (List.nil_perm.mp pm)
end
end K05d

namespace K05d
open PySem PySem.Spec PyProof.Rows L2 Br Dl K05
theorem hw_low {z : Str} (h : K05.low z) (h1 : 1 ≤ z.length) (h8 : z.length ≤ 8) : Hw z := by
  refine ⟨h.word h1 h8, okS_mk (by omega) fun c hc => by have := h c hc; omega, ?_⟩
  unfold PyData.strOk
  rw [← Array.all_toList]
  exact List.all_eq_true.mpr fun c hc => decide_eq_true (by have := h c hc; omega)
theorem titles_s {c : Cell} {home : Str} {n : Int} {m : Int} (hm : 1 ≤ m ∧ m ≤ 6) (lh : K05.low home) (h1 : 1 ≤ home.length) (h3 : home.length ≤ 3) {k : D → List Cell → Prop} (p : PL c)
    (h : ∀ (ns : List (Str × Int)) (c' : Cell), PL c' → ns ≠ [] → ns.length ≤ 6 → riseN ns = true → Gs home n ns → k (.tuple .frz (ns.map tn)) [c']) : F_law_titles [c, .fro (ttl home n), .fro (.int m)] k := by
  have s : 1000 ≤ sizeLine := by decide
  have hw : Hw home := hw_low lh h1 (by omega)
  have lq : ("q" ++ home).length = ("q" : Str).length + home.length := Str.length_append ..
  have l1 : ("q" : Str).length = 1 := by decide
  have hq : Hw ("q" ++ home) := hw_low (low_app (x := "q") (y := home) (by unfold low; decide +kernel) lh) (by omega) (by omega)
  refine Fof.mk rfl ?_
  rw [titles_eq]
  refine (show 0 ≤ sizeLine ∧ _ from ⟨Nat.zero_le _, ?_⟩)
  refine rng_st (a_st (op_st (ev_c _ (call_take (j := 0) (n := m) rfl p (fun k' q => q) (by omega) (by omega) fun t c' t0 t1 p' => ?_))))
  have ln : (intsD 0 (1 + t).toNat).length = (1 + t).toNat := by unfold intsD; rw [List.length_map, List.length_range]
  refine (show -(2 ^ 62) ≤ 1 + t ∧ 1 + t < 2 ^ 62 ∧ sForL (mgName 4) tl_body _ (intsD 0 (1 + t).toNat) [c', .fro (ttl home n), .fro (.int m), .own (.list (([] : List (Str × Int)).map tn)), .un, .un] from ⟨by omega, by omega, ?_⟩)
  refine tl_L hw _ _ _ _ [] p' ⟨(fun _ z => nomatch z), List.nodup_nil⟩ (fun _ z => nomatch z) (by rw [ln]; simp; omega) fun c2 x4 x5 ns p2 g hs hl => ?_
  exact tl_last_s hw h3 hq g hs hl fun ns' cs ne l6 r gg => h ns' c2 p2 ne l6 r gg
end K05d

namespace K05d
open PySem PySem.Spec PyProof.Rows L2 Br Dl K05
theorem ife_st {t : MT} {ma mb : ME} {ρ : Cs} {b : Bool} {k : D → Cs → Prop} (h : EvT t ρ b) (q : if b = true then ma ρ k else mb ρ k) : mIfE t ma mb ρ k := h _ q
theorem key_of_s {t d2 d3 d4 d5 d6 : D} {ks : Str} (hk : ks ∈ kindsL) {k : D → List Cell → Prop} (h : k (if ks = "say" ∨ ks = "strike" then .none else .tuple .mad [.str ks, d3]) []) : F_key_of [.fro (.tuple .mad [t, .str ks, d2, d3, d4, d5, d6])] k := by
  have s : 1000 ≤ sizeLine := by decide
  refine Fof.mk rfl ?_
  have e1 : Ev (mOp oIx (mVar 0) (mC (.int 1))) [.fro (.tuple .mad [t, .str ks, d2, d3, d4, d5, d6]), .un] (.str ks) := ev_op (a := .tuple .mad [t, .str ks, d2, d3, d4, d5, d6]) (b := .int 1) (ev_var rfl) ev_c fun k q => q
  refine set_ev e1 ?_
  have e3 : Ev (mOp oIx (mVar 0) (mC (.int 3))) [.fro (.tuple .mad [t, .str ks, d2, d3, d4, d5, d6]), .fro (.str ks)] d3 := ev_op (a := .tuple .mad [t, .str ks, d2, d3, d4, d5, d6]) (b := .int 3) (ev_var rfl) ev_c fun k q => q
  have et : Ev (mTup (aCons (mVar 1) (aCons (mOp oIx (mVar 0) (mC (.int 3))) aNil))) [.fro (.tuple .mad [t, .str ks, d2, d3, d4, d5, d6]), .fro (.str ks)] (.tuple .mad [.str ks, d3]) := ev_tup (eva_cons (ev_var rfl) (eva_cons e3 eva_nil)) (Nat.le_of_ble_eq_true rfl)
  have ei : EvT (mTest (mOp (oIn false) (mVar 1) (mC k_KEYED))) [.fro (.tuple .mad [t, .str ks, d2, d3, d4, d5, d6]), .fro (.str ks)] (memD (.str ks) [.str "begin", .str "seat", .str "ranks", .str "door", .str "move"]) := evt_test (ev_op (a := .str ks) (ev_var rfl) ev_c fun k q => ⟨rfl, rfl, by rw [Bool.bne_false]; exact q⟩)
  have em : memD (.str ks) [.str "begin", .str "seat", .str "ranks", .str "door", .str "move"] = !decide (ks = "say" ∨ ks = "strike") := by
    have all : ∀ z ∈ kindsL, memD (.str z) [.str "begin", .str "seat", .str "ranks", .str "door", .str "move"] = !decide (z = "say" ∨ z = "strike") := by unfold kindsL; decide +kernel
    exact all ks hk
  rw [em] at ei
  by_cases c : ks = "say" ∨ ks = "strike"
  · rw [decide_eq_true c] at ei
    rw [if_pos c] at h
    exact ret_st (ife_st ei (show k .none [] from h))
  · rw [decide_eq_false c] at ei
    rw [if_neg c] at h
    exact ret_st (ife_st ei (et _ h))
end K05d

namespace K05d
open PySem PySem.Spec PyProof.Rows L2 Br Dl K05
/-! ranks: sorted rows of people, and of words -/
theorem ltN_fst {p q : Str × Int} (h : ltN p q = true) (n : p.1 ≠ q.1) : ltS p.1 q.1 = true := by
  obtain ⟨x, i⟩ := p
  obtain ⟨y, j⟩ := q
  rw [← raw_lt] at h
  have h' : (decide (x.cps.toList < y.cps.toList) || (!decide (y.cps.toList < x.cps.toList) && (decide (i < j) || (!decide (j < i) && false)))) = true := h
  unfold ltS
  by_cases a : x.cps.toList < y.cps.toList
  · exact decide_eq_true a
  · by_cases b : y.cps.toList < x.cps.toList
    · simp [a, b] at h'
    · have h3 : y.cps.toList ≤ x.cps.toList := List.not_lt.mp a
      rcases Std.le_iff_lt_or_eq.mp h3 with z | z
      · exact absurd z b
      · exact absurd (str_ext z.symm) n
theorem riseS_pw : ∀ {ys : List Str}, ys.Pairwise (fun x y => ltS x y = true) → riseS ys = true
  | [], _ => rfl
  | [x], _ => rfl
  | x :: y :: r, h => by
    have h1 := (List.pairwise_cons.mp h).1 y List.mem_cons_self
    have h2 := riseS_pw (List.pairwise_cons.mp h).2
    show (ltS x y && riseS (y :: r)) = true
    rw [h1, h2]
    rfl
theorem Pd.person {z : Str} (p : Pd z) : personS z = true := by
  obtain ⟨w, h, a, b, l1, l2, rfl⟩ := p
  have e : Txt.split (w ++ "@" ++ h) at1 = [w, h] := Pd.split a b
  unfold personS
  rw [e]
  show (wordS w && wordS h) = true
  rw [(show K05.low w from a).word (by omega) (by omega), (show K05.low h from b).word (by omega) (by omega)]
  rfl
theorem Pd.ok {z : Str} (p : Pd z) : K05.okS z = true := by
  obtain ⟨w, h, a, b, l1, l2, rfl⟩ := p
  refine okS_mk ?_ fun c hc => ?_
  · rw [len_app, len_app]
    have : (Str.ofString "@").length = 1 := by decide
    omega
  · have e : (w ++ "@" ++ h).cps.toList = (w.cps.toList ++ [64]) ++ h.cps.toList := by
      rw [show (w ++ "@" ++ h).cps.toList = (w ++ "@").cps.toList ++ h.cps.toList from Array.toList_append, show (w ++ "@").cps.toList = w.cps.toList ++ [64] from Array.toList_append]
    rw [e] at hc
    rcases List.mem_append.mp hc with q | q
    · rcases List.mem_append.mp q with q | q
      · have := a c q; omega
      · rw [List.mem_singleton.mp q]; decide
    · have := b c q; omega
def tz (p : Str × Int) : D := .tuple .frz [.str p.1, .int p.2]
def Rk (p : Str × Int) : Prop := 0 ≤ p.2 ∧ p.2 ≤ 100
theorem nodup_of_map : ∀ {ps : List (Str × Int)}, (ps.map (·.1)).Nodup → ps.Nodup
  | [], _ => List.nodup_nil
  | p :: ps, h => by
    rw [List.map_cons, List.nodup_cons] at h
    exact List.nodup_cons.mpr ⟨fun z => h.1 (List.mem_map.mpr ⟨p, z, rfl⟩), nodup_of_map h.2⟩
theorem rows2_L {i : Nat} {mt : MT} {me : ME} {K : List D → Cs → Prop} {mk : Str × Int → D} (S : Cell → Cell → Cs) (s1 : ∀ c x y, (S c x).set i y = S c y)
    (ht : ∀ c x k, PL c → (∀ b c', PL c' → k b (S c' x)) → mt (S c x) k) (he : ∀ c z (k : D → Cs → Prop), PL c → (∀ r c', PL c' → Rk (z, r) → k (mk (z, r)) (S c' (.fro (.str z)))) → me (S c (.fro (.str z))) k) :
    ∀ (zs : List Str) (ps : List (Str × Int)) (c : Cell), PL c → (∀ p ∈ ps, Rk p) → (∀ (ps' : List (Str × Int)) (c' : Cell), PL c' → (∀ p ∈ ps', Rk p) → (ps'.map (·.1)).Sublist (ps.map (·.1) ++ zs) → K (ps'.map mk) (S c' .un)) → mLcL (mgName i) mt me [i] K (zs.map .str) (ps.map mk) (S c .un)
  | [], ps, c, p, ha, h => h ps c p ha (by rw [List.append_nil]; exact List.Sublist.refl _)
  | z :: zs, ps, c, p, ha, h => by
    show mt ((S c .un).set i (.fro (.str z))) fun b ρ2 => if b = true then me ρ2 fun d ρ3 => mLcL (mgName i) mt me [i] K (zs.map .str) (ps.map mk ++ [d]) (wipeC ρ3 [i]) else mLcL (mgName i) mt me [i] K (zs.map .str) (ps.map mk) (wipeC ρ2 [i])
    rw [s1]
    refine ht c _ _ p fun b c1 p1 => ?_
    cases b
    · rw [if_neg (by decide)]
      show mLcL _ _ _ _ K _ (ps.map mk) ((S c1 _).set i .un)
      rw [s1]
      refine rows2_L S s1 ht he zs ps c1 p1 ha fun ps' c' p' h1 h2 => h ps' c' p' h1 (h2.trans ?_)
      exact List.Sublist.append (List.Sublist.refl _) (List.sublist_cons_self z zs)
    · rw [if_pos rfl]
      refine he c1 z _ p1 fun r c2 p2 pd => ?_
      show mLcL _ _ _ _ K _ (ps.map mk ++ [mk (z, r)]) ((S c2 _).set i .un)
      rw [s1]
      have e : ps.map mk ++ [mk (z, r)] = (ps ++ [(z, r)]).map mk := by rw [List.map_append]; rfl
      rw [e]
      refine rows2_L S s1 ht he zs (ps ++ [(z, r)]) c2 p2 (fun y hy => ?_) fun ps' c' p' h1 h2 => h ps' c' p' h1 (h2.trans ?_)
      · rcases List.mem_append.mp hy with q | q
        · exact ha y q
        · rw [List.mem_singleton.mp q]; exact pd
      · rw [List.map_append, List.append_assoc]
        exact List.Sublist.refl _
theorem test_gt {j : Nat} {n : Int} {k : Bool → Cs → Prop} {c : Cell} {ρ : Cs} (hj : ρ[j]? = some c) (p : PL c) (hn : 0 < n) (hn2 : n < 1073741824) (h : ∀ b c', PL c' → k b (ρ.set j c')) : mTest (mOp oGt (mCall F_law_take 1 (rOwn j (rCons (mC (.int n)) rNil))) (mC (.int 0))) ρ k :=
  call_take (k := fun d ρ1 => oGt d (.int 0) fun r => match r with | .bool b => k b ρ1 | _ => False) hj p (fun _ z => z) hn hn2 fun t c' _ _ p' => h _ c' p'
theorem test_eq {j : Nat} {n : Int} {k : Bool → Cs → Prop} {c : Cell} {ρ : Cs} (hj : ρ[j]? = some c) (p : PL c) (hn : 0 < n) (hn2 : n < 1073741824) (h : ∀ b c', PL c' → k b (ρ.set j c')) : mTest (mOp oEq (mCall F_law_take 1 (rOwn j (rCons (mC (.int n)) rNil))) (mC (.int 0))) ρ k :=
  call_take (k := fun d ρ1 => oEq d (.int 0) fun r => match r with | .bool b => k b ρ1 | _ => False) hj p (fun _ z => z) hn hn2 fun t c' _ _ p' => h _ c' p'
theorem six_at {a : Int} (a0 : 0 ≤ a) (a1 : a ≤ 100) {t : Int} {k : D → Prop} (t0 : 0 ≤ t) (t1 : t < 6) (h : ∀ i : Int, 0 ≤ i → i ≤ 100 → k (.int i)) : oIx (.list [.int 0, .int a, .int 50, .int 50, .int 99, .int 100]) (.int t) k := by
  have : t = 0 ∨ t = 1 ∨ t = 2 ∨ t = 3 ∨ t = 4 ∨ t = 5 := by omega
  rcases this with rfl | rfl | rfl | rfl | rfl | rfl
  · exact h 0 (by decide) (by decide)
  · exact h a a0 a1
  · exact h 50 (by decide) (by decide)
  · exact h 50 (by decide) (by decide)
  · exact h 99 (by decide) (by decide)
  · exact h 100 (by decide) (by decide)
def rr_some : ME := (mLc (mItems dLst (mVar 1)) (mgName 4) (mTest (mOp oGt (mCall F_law_take 1 (rOwn 0 (rCons (mC (.int 4)) rNil))) (mC (.int 0)))) (mTup (aCons (mVar 4) (aCons (mOp oIx (mVar 2) (mCall F_law_take 1 (rOwn 0 (rCons (mC (.int 6)) rNil)))) aNil))) [4])
def rr_words : ME := (mLc (mItems dLst (mVar 5)) (mgName 6) (mTest (mOp oEq (mCall F_law_take 1 (rOwn 0 (rCons (mC (.int 3)) rNil))) (mC (.int 0)))) (mTupZ (aCons (mVar 6) (aCons (mOp oIx (mVar 2) (mCall F_law_take 1 (rOwn 0 (rCons (mC (.int 6)) rNil)))) aNil))) [6])
def rr_ranks : ME := (mLst (aCons (mC (.int 0)) (aCons (mOp oAdd (mC (.int 1)) (mCall F_law_take 1 (rOwn 0 (rCons (mC (.int 98)) rNil)))) (aCons (mC (.int 50)) (aCons (mC (.int 50)) (aCons (mC (.int 99)) (aCons (mC (.int 100)) aNil)))))))
def rr_list : ME := (mLst (aCons (mC (.str "bar")) (aCons (mC (.str "call")) (aCons (mC (.str "door")) (aCons (mC (.str "move")) (aCons (mC (.str "out")) (aCons (mC (.str "ranks")) (aCons (mC (.str "say")) (aCons (mC (.str "strike")) aNil)))))))))
theorem rr_eq : b_law_rank_rows = (sSeq (sSet 2 rr_ranks) (sSeq (sSet 3 (mUn oSorted_pairs rr_some)) (sSeq (sSet 5 rr_list) (sRet (mTup (aCons (mUn oTupOf (mVar 3)) (aCons (mUn oTupOf rr_words) aNil))))))) := rfl
abbrev rL (a : Int) : D := .list [.int 0, .int a, .int 50, .int 50, .int 99, .int 100]
theorem ranks_s {c x2 x3 x4 x5 x6 : Cell} {n : Cell} {k : D → Cs → Prop} (p : PL c) (h : ∀ (a : Int) c', PL c' → 0 ≤ a → a ≤ 100 → k (rL a) [c', n, x2, x3, x4, x5, x6]) : rr_ranks [c, n, x2, x3, x4, x5, x6] k := by
  have s : 100 ≤ sizeLine := by decide
  have e : rr_ranks [c, n, x2, x3, x4, x5, x6] k = mOp oAdd (mC (.int 1)) (mCall F_law_take 1 (rOwn 0 (rCons (mC (.int 98)) rNil))) [c, n, x2, x3, x4, x5, x6] fun d ρ => 6 ≤ sizeLine ∧ k (.list [.int 0, d, .int 50, .int 50, .int 99, .int 100]) ρ := rfl
  rw [e]
  exact one_take rfl p (by decide) (by decide) fun t c' p' t0 t1 => ⟨by omega, h t c' p' (by omega) (by omega)⟩
theorem rsome_s {c x3 x5 x6 : Cell} {a : Int} (a0 : 0 ≤ a) (a1 : a ≤ 100) {zs : List Str} {k : D → Cs → Prop} (p : PL c) (hl : zs.length ≤ sizeLine) (h : ∀ (ps : List (Str × Int)) c', PL c' → (∀ p ∈ ps, Rk p) → (ps.map (·.1)).Sublist zs → k (.list (ps.map tn)) [c', .fro (.list (zs.map .str)), .fro (rL a), x3, .un, x5, x6]) :
    rr_some [c, .fro (.list (zs.map .str)), .fro (rL a), x3, .un, x5, x6] k := by
  have s2 : 2 ≤ sizeLine := by decide
  refine (show (zs.map D.str).length ≤ sizeLine ∧ mLcL (mgName 4) _ _ [4] (fun ds ρ2 => k (.list ds) ρ2) (zs.map .str) (([] : List (Str × Int)).map tn) [c, .fro (.list (zs.map .str)), .fro (rL a), x3, .un, x5, x6] from ⟨by rw [List.length_map]; exact hl, ?_⟩)
  refine rows2_L (mk := tn) (fun c x => [c, .fro (.list (zs.map .str)), .fro (rL a), x3, x, x5, x6]) (fun _ _ _ => rfl) (fun c x k p h => ?_) (fun c z k p h => ?_) zs [] c p (fun _ z => nomatch z) fun ps c' p' hu hs => h ps c' p' hu hs
  · exact test_gt (ρ := [c, .fro (.list (zs.map .str)), .fro (rL a), x3, x, x5, x6]) (j := 0) (n := 4) rfl p (by decide) (by decide) fun b c' p' => h b c' p'
  · refine (op_var (o := oIx) (i := 2) (ρ := [c, .fro (.list (zs.map .str)), .fro (rL a), x3, .fro (.str z), x5, x6]) (k := fun d ρ => 2 ≤ sizeLine ∧ k (.tuple .mad [.str z, d]) ρ) rfl (call_take (j := 0) (n := 6) (m := mC (.int 6)) rfl p (fun _ z => z) (by decide) (by decide) fun t c' t0 t1 p' => six_at a0 a1 t0 t1 fun i i0 i1 => ⟨s2, h i c' p' ⟨i0, i1⟩⟩))
theorem rwords_s {c n1 x3 x4 : Cell} {a : Int} (a0 : 0 ≤ a) (a1 : a ≤ 100) {zs : List Str} {k : D → Cs → Prop} (p : PL c) (hl : zs.length ≤ sizeLine) (h : ∀ (ps : List (Str × Int)) c', PL c' → (∀ p ∈ ps, Rk p) → (ps.map (·.1)).Sublist zs → k (.list (ps.map tz)) [c', n1, .fro (rL a), x3, x4, .fro (.list (zs.map .str)), .un]) :
    rr_words [c, n1, .fro (rL a), x3, x4, .fro (.list (zs.map .str)), .un] k := by
  have s2 : 2 ≤ sizeLine := by decide
  refine (show (zs.map D.str).length ≤ sizeLine ∧ mLcL (mgName 6) _ _ [6] (fun ds ρ2 => k (.list ds) ρ2) (zs.map .str) (([] : List (Str × Int)).map tz) [c, n1, .fro (rL a), x3, x4, .fro (.list (zs.map .str)), .un] from ⟨by rw [List.length_map]; exact hl, ?_⟩)
  refine rows2_L (mk := tz) (fun c x => [c, n1, .fro (rL a), x3, x4, .fro (.list (zs.map .str)), x]) (fun _ _ _ => rfl) (fun c x k p h => ?_) (fun c z k p h => ?_) zs [] c p (fun _ z => nomatch z) fun ps c' p' hu hs => h ps c' p' hu hs
  · exact test_eq (ρ := [c, n1, .fro (rL a), x3, x4, .fro (.list (zs.map .str)), x]) (j := 0) (n := 3) rfl p (by decide) (by decide) fun b c' p' => h b c' p'
  · refine (op_var (o := oIx) (i := 2) (ρ := [c, n1, .fro (rL a), x3, x4, .fro (.list (zs.map .str)), .fro (.str z)]) (k := fun d ρ => 2 ≤ sizeLine ∧ k (.tuple .frz [.str z, d]) ρ) rfl (call_take (j := 0) (n := 6) (m := mC (.int 6)) rfl p (fun _ z => z) (by decide) (by decide) fun t c' t0 t1 p' => six_at a0 a1 t0 t1 fun i i0 i1 => ⟨s2, h i c' p' ⟨i0, i1⟩⟩))
/-- rows are as told -/
theorem ranking_of {p : PyData → Bool} {ps : List (Str × Int)} {mk : Str × Int → D} (hm : ∀ q, toPy (mk q) = .tuple [.str q.1, .int q.2]) (hp : ∀ q ∈ ps, p (.str q.1) = true ∧ Rk q) (hr : riseS (ps.map (·.1)) = true) : rankingD p (.tuple (toPys (ps.map mk))) = true := by
  show ((toPys (ps.map mk)).all (rowD p) && riseS ((toPys (ps.map mk)).map fstS)) = true
  have e : toPys (ps.map mk) = ps.map fun q => PyData.tuple [.str q.1, .int q.2] := by
    rw [toPys_eq, List.map_map]
    exact List.map_congr_left fun q _ => hm q
  have e2 : (ps.map fun q => PyData.tuple [.str q.1, .int q.2]).map fstS = ps.map (·.1) := by
    rw [List.map_map]
    exact List.map_congr_left fun q _ => rfl
  rw [e, e2, hr, Bool.and_true, List.all_map]
  refine List.all_eq_true.mpr fun q hq => ?_
  show (p (.str q.1) && (decide (0 ≤ q.2) && decide (q.2 ≤ 100))) = true
  rw [(hp q hq).1, decide_eq_true (hp q hq).2.1, decide_eq_true (hp q hq).2.2]
  rfl
abbrev wL : List Str := ["bar", "call", "door", "move", "out", "ranks", "say", "strike"]
theorem wL_rise : wL.Pairwise (fun x y => ltS x y = true) := by decide +kernel
theorem wL_ok : ∀ z ∈ wL, oneOfD wordsL (.str z) = true ∧ K05.okS z = true := by decide +kernel
theorem ok_rows {mk : Str × Int → D} {c : Tk} (hm : ∀ q, mk q = .tuple c [.str q.1, .int q.2]) {ps : List (Str × Int)} (h : ∀ q ∈ ps, K05.okS q.1 = true) (hl : ps.length ≤ 1000) : Ok (.tuple .frz (ps.map mk)) := by
  refine ok_tup (fun d hd => ?_) (by rw [List.length_map]; exact hl)
  obtain ⟨q, hq, rfl⟩ := List.mem_map.mp hd
  rw [hm]
  exact ok_nm (h q hq)
theorem rank_rows_s {c : Cell} {zs : List Str} {k : D → List Cell → Prop} (p : PL c) (hz : ∀ z ∈ zs, Pd z) (hn : zs.Nodup) (hl : zs.length = 4) (h : ∀ x c', PL c' → Body "ranks" x → k x [c']) : F_law_rank_rows [c, .fro (.list (zs.map .str))] k := by
  have s2 : 2 ≤ sizeLine := by decide
  have s8 : 8 ≤ sizeLine := by decide
  refine Fof.mk rfl ?_
  rw [rr_eq]
  refine seq_set (ranks_s p fun a c1 p1 a0 a1 => seq_set ?_)
  refine rsome_s a0 a1 p1 (by omega) fun ps c2 p2 hu hs => ?_
  have hn1 : (ps.map (·.1)).Nodup := hs.nodup hn
  have hn2 : ps.Nodup := nodup_of_map hn1
  refine sort_tn hn2 fun ps' pm pw => ?_
  have hn3 : (ps'.map (·.1)).Nodup := (List.Perm.map (fun q : Str × Int => q.1) pm).nodup_iff.mpr hn1
  refine seq_set (show 8 ≤ sizeLine ∧ _ from ⟨s8, ?_⟩)
  have hw := rwords_s (zs := wL) (n1 := .fro (.list (zs.map .str))) (x3 := .fro (.list (ps'.map tn))) (x4 := .un) (a := a) a0 a1 (k := fun d ρ1 => oTupOf d fun d2 => 2 ≤ sizeLine ∧ k (.tuple .mad [.tuple .frz (ps'.map tn), d2]) (ρ1.take 1)) p2 s8 fun ws c3 p3 hw hws => ⟨s2, h _ c3 p3 ?_⟩
  · exact hw
  · have l1 : ps'.length ≤ 4 := by
      have := hs.length_le
      rw [List.length_map] at this
      rw [pm.length_eq]; omega
    have l2 : ws.length ≤ 8 := by
      have := hws.length_le
      rw [List.length_map] at this
      exact this
    have mp : ∀ q ∈ ps', Pd q.1 ∧ Rk q := fun q hq => ⟨hz _ (hs.subset (List.mem_map.mpr ⟨q, pm.mem_iff.mp hq, rfl⟩)), hu q (pm.mem_iff.mp hq)⟩
    have mw : ∀ q ∈ ws, q.1 ∈ wL ∧ Rk q := fun q hq => ⟨hws.subset (List.mem_map.mpr ⟨q, hq, rfl⟩), hw q hq⟩
    have r1 : riseS (ps'.map (·.1)) = true := by
      refine riseS_pw ?_
      rw [List.pairwise_map]
      have hn4 : ps'.Pairwise (fun x y => x.1 ≠ y.1) := List.pairwise_map.mp hn3
      exact (pw.and hn4).imp fun {x y} z => ltN_fst z.1 z.2
    have r2 : riseS (ws.map (·.1)) = true := riseS_pw (wL_rise.sublist hws)
    refine ⟨?_, ok_tup (ok_cons (ok_rows (fun _ => rfl) (fun q hq => (mp q hq).1.ok) (by omega)) (ok_cons (ok_rows (mk := tz) (fun _ => rfl) (fun q hq => (wL_ok q.1 (mw q hq).1).2) (by omega)) ok_nil)) (Nat.le_of_ble_eq_true rfl)⟩
    show (rankingD personD (.tuple (toPys (ps'.map tn))) && (decide ((toPys (ps'.map tn)).length ≤ 20) && rankingD (oneOfD wordsL) (.tuple (toPys (ws.map tz))))) = true
    rw [ranking_of (p := personD) (mk := tn) (fun _ => rfl) (fun q hq => ⟨(mp q hq).1.person, (mp q hq).2⟩) r1, ranking_of (p := oneOfD wordsL) (mk := tz) (fun _ => rfl) (fun q hq => ⟨(wL_ok q.1 (mw q hq).1).1, (mw q hq).2⟩) r2, len_toPys, List.length_map, decide_eq_true (by omega : ps'.length ≤ 20)]
    rfl
theorem con_ranks {c : Cell} {zs : List Str} {t : D} {k : D → List Cell → Prop} (p : PL c) (hz : ∀ z ∈ zs, Pd z) (hn : zs.Nodup) (hl : zs.length = 4) (h : ∀ x c', PL c' → Body "ranks" x → k x [c']) : F_law_content [c, .fro (.str "ranks"), .fro (.list (zs.map .str)), .fro t] k := by
  refine Fof.mk rfl ?_
  unfold b_law_content
  have e : ∀ m : Str, EvT (mTest (mOp oEq (mVar 1) (mC (.str m)))) [c, .fro (.str "ranks"), .fro (.list (zs.map .str)), .fro t, .un, .un] (decide ("ranks" = m)) := fun m => evt_test (ev_op (a := .str "ranks") (b := .str m) (ev_var rfl) ev_c fun k q => q)
  have ny : ∀ m : Str, ¬ "ranks" = m → EvT (mTest (mOp oEq (mVar 1) (mC (.str m)))) [c, .fro (.str "ranks"), .fro (.list (zs.map .str)), .fro t, .un, .un] false := fun m z => by have := e m; rwa [decide_eq_false z] at this
  have yy : EvT (mTest (mOp oEq (mVar 1) (mC (.str "ranks")))) [c, .fro (.str "ranks"), .fro (.list (zs.map .str)), .fro t, .un, .un] true := by have := e "ranks"; rwa [decide_eq_true rfl] at this
  refine if0_st (ny _ (by decide)) (if0_st (ny _ (by decide)) (if1_st yy (ret_st ?_)))
  obtain ⟨a, b, rfl, p'⟩ := id p
  refine (show (slotsOf [.inl 0, .inr (D.list (zs.map .str))]).Nodup ∧ slotsOf ([.inr (D.list (zs.map .str))] : List Ar) = [] ∧ F_law_rank_rows [.own (.list [.int a, .int b]), .fro (.list (zs.map .str))] (fun d cs' => k d ((putBack [.own (.list [.int a, .int b]), .fro (.str "ranks"), .fro (.list (zs.map .str)), .fro t, .un, .un] [.inl 0, .inr (D.list (zs.map .str))] cs').take 1)) from ⟨by simp [slotsOf], rfl, ?_⟩)
  exact rank_rows_s p hz hn hl fun x c' p' hb => h x c' p' hb
end K05d

namespace K05d
open PySem PySem.Spec PyProof.Rows L2 Br Dl K05
/-! calls with an owned first argument -/
theorem own1_st {F : Fs} {ma : ME} {a x : D} {ρ : Cs} {k : D → Cs → Prop} (h0 : ρ[0]? = some (.own x)) (ha : Ev ma ρ a) (q : F [.own x, .fro a] fun d cs' => k d (putBack ρ [.inl 0, .inr a] cs')) : mCall F 1 (rOwn 0 (rCons ma rNil)) ρ k := by
  show mOwn 0 ρ (fun _ _ => ma ρ fun da ρ1 => (slotsOf [.inl 0, .inr da]).Nodup ∧ slotsOf ([.inr da] : List Ar) = [] ∧ match cellsOf ρ1 [.inl 0, .inr da] with | some cs => F cs fun d cs' => k d (putBack ρ1 [.inl 0, .inr da] cs') | none => False)
  unfold mOwn
  rw [h0]
  have e : cellsOf ρ [.inl 0, .inr a] = some [.own x, .fro a] := by simp [cellsOf, h0]
  refine ha _ ⟨by simp [slotsOf], rfl, ?_⟩
  rw [e]
  exact q
theorem own2_st {F : Fs} {ma mb : ME} {a b x : D} {ρ : Cs} {k : D → Cs → Prop} (h0 : ρ[0]? = some (.own x)) (ha : Ev ma ρ a) (hb : Ev mb ρ b) (q : F [.own x, .fro a, .fro b] fun d cs' => k d (putBack ρ [.inl 0, .inr a, .inr b] cs')) : mCall F 1 (rOwn 0 (rCons ma (rCons mb rNil))) ρ k := by
  show mOwn 0 ρ (fun _ _ => ma ρ fun da ρ1 => mb ρ1 fun db ρ2 => (slotsOf [.inl 0, .inr da, .inr db]).Nodup ∧ slotsOf ([.inr da, .inr db] : List Ar) = [] ∧ match cellsOf ρ2 [.inl 0, .inr da, .inr db] with | some cs => F cs fun d cs' => k d (putBack ρ2 [.inl 0, .inr da, .inr db] cs') | none => False)
  unfold mOwn
  rw [h0]
  have e : cellsOf ρ [.inl 0, .inr a, .inr b] = some [.own x, .fro a, .fro b] := by simp [cellsOf, h0]
  refine ha _ (hb _ ⟨by simp [slotsOf], rfl, ?_⟩)
  rw [e]
  exact q
theorem own3_st {F : Fs} {ma mb mc : ME} {a b c x : D} {ρ : Cs} {k : D → Cs → Prop} (h0 : ρ[0]? = some (.own x)) (ha : Ev ma ρ a) (hb : Ev mb ρ b) (hc : Ev mc ρ c) (q : F [.own x, .fro a, .fro b, .fro c] fun d cs' => k d (putBack ρ [.inl 0, .inr a, .inr b, .inr c] cs')) : mCall F 1 (rOwn 0 (rCons ma (rCons mb (rCons mc rNil)))) ρ k := by
  show mOwn 0 ρ (fun _ _ => ma ρ fun da ρ1 => mb ρ1 fun db ρ2 => mc ρ2 fun dc ρ3 => (slotsOf [.inl 0, .inr da, .inr db, .inr dc]).Nodup ∧ slotsOf ([.inr da, .inr db, .inr dc] : List Ar) = [] ∧ match cellsOf ρ3 [.inl 0, .inr da, .inr db, .inr dc] with | some cs => F cs fun d cs' => k d (putBack ρ3 [.inl 0, .inr da, .inr db, .inr dc] cs') | none => False)
  unfold mOwn
  rw [h0]
  have e : cellsOf ρ [.inl 0, .inr a, .inr b, .inr c] = some [.own x, .fro a, .fro b, .fro c] := by simp [cellsOf, h0]
  refine ha _ (hb _ (hc _ ⟨by simp [slotsOf], rfl, ?_⟩))
  rw [e]
  exact q
theorem ev_split {ma : ME} {ρ : Cs} {x : Str} {ys : List Str} (h : Ev ma ρ (.str x)) (e : Txt.split x "@" = ys) (hl : x.length + 2 ≤ sizeLine) : Ev (mSplit ma (mC (.str "@"))) ρ (.list (ys.map .str)) := fun k q => h _ ⟨by decide, hl, by rw [e]; exact q⟩
/-! contents of all kinds -/
theorem content_s {c : Cell} {ks : Str} {zs : List Str} {t : D} {k : D → List Cell → Prop} (p : PL c) (hk : ks ∈ kindsL) (hz : ∀ z ∈ zs, Pd z) (hn : zs.Nodup) (hl : zs.length = 4) (h : ∀ x c', PL c' → Body ks x → k x [c']) : F_law_content [c, .fro (.str ks), .fro (.list (zs.map .str)), .fro t] k := by
  unfold kindsL at hk
  simp only [List.mem_cons, List.not_mem_nil, or_false] at hk
  rcases hk with rfl | rfl | rfl | rfl | rfl | rfl | rfl
  · exact con_s p (.inl rfl) h
  · exact con_s p (.inr (.inl rfl)) h
  · exact con_ranks p hz hn hl h
  · exact con_s p (.inr (.inr (.inl rfl))) h
  · exact say_s p h
  · exact con_s p (.inr (.inr (.inr (.inl rfl)))) h
  · exact con_s p (.inr (.inr (.inr (.inr rfl)))) h
/-- a deed as the law draws it -/
structure Deed (home : Str) (n : Int) (ks wd ab : Str) (d4 d5 d6 : D) : Prop where
  whole : Whole (toPy (ttl home n)) (.str ks) (.str (wd ++ "@" ++ home)) (.str ab) (toPy d4) (toPy d5) (toPy d6)
  kd : ks ∈ kindsL
  lh : low home
  lw : low wd
  nh : 1 ≤ home.length ∧ home.length ≤ 3
  nw : 1 ≤ wd.length ∧ wd.length ≤ 4
  n0 : 0 ≤ n
  n1 : n ≤ 99999
  oa : K05.okS ab = true
  o4 : Ok d4
  o5 : Ok d5
  o6 : Ok d6
abbrev dTup (home : Str) (n : Int) (ks wd ab : Str) (d4 d5 d6 : D) : D := .tuple .mad [ttl home n, .str ks, .str (wd ++ "@" ++ home), .str ab, d4, d5, d6]
def dr_end : MS := (sSeq (sIf (mTest (mOp oEq (mVar 2) (mC (.str "begin"))))
      (sRet (mTup (aCons (mVar 3) (aCons (mVar 2) (aCons (mOp oIx (mVar 1) (mC (.int 0))) (aCons (mVar 4) (aCons (mVar 5) (aCons (mTupZ aNil) (aCons (mTupZ aNil) aNil)))))))))
      sNext)
    (sRet (mTup (aCons (mVar 3) (aCons (mVar 2) (aCons (mOp oIx (mVar 1) (mC (.int 0))) (aCons (mVar 4) (aCons (mVar 5) (aCons (mCall F_law_titles 1 (rOwn 0 (rCons (mVar 3) (rCons (mC (.int 6)) rNil)))) (aCons (mCall F_law_titles 1 (rOwn 0 (rCons (mVar 3) (rCons (mC (.int 4)) rNil)))) aNil))))))))))
def dr_about : ME := (mOp oIx (mLst (aCons (mC (.str "")) (aCons (mOp oIx (mVar 1) (mCall F_law_take 1 (rOwn 0 (rCons (mC (.int 4)) rNil)))) aNil))) (mUn oInt (mOp oEq (mVar 2) (mC (.str "seat")))))
def dr_home : ME := (mOp oIx (mSplit (mOp oIx (mVar 1) (mC (.int 0))) (mC (.str "@"))) (mC (.int 1)))
def dr_sort : ME := (mOp oIx (mLst (aCons (mC (.str "begin")) (aCons (mC (.str "seat")) (aCons (mC (.str "ranks")) (aCons (mC (.str "door")) (aCons (mC (.str "say")) (aCons (mC (.str "strike")) (aCons (mC (.str "move")) aNil)))))))) (mCall F_law_take 1 (rOwn 0 (rCons (mC (.int 7)) rNil))))
theorem dr_eq : b_law_drawn = (sSeq (sSet 1 (mCall F_law_folk 1 (rOwn 0 (rCons (mC (.int 4)) rNil)))) (sSeq (sSet 2 dr_sort) (sSeq (sSet 3 (mCall F_law_title 1 (rOwn 0 (rCons dr_home rNil)))) (sSeq (sSet 4 dr_about) (sSeq (sSet 5 (mCall F_law_content 1 (rOwn 0 (rCons (mVar 2) (rCons (mVar 1) (rCons (mVar 3) rNil)))))) dr_end))))) := rfl
theorem ok_tns {home : Str} {n : Int} {c : Tk} {ns : List (Str × Int)} (g : Gs home n ns) (hl : ns.length ≤ 6) : Ok (.tuple c (ns.map tn)) := by
  refine ok_tup (fun d hd => ?_) (by rw [List.length_map]; omega)
  obtain ⟨q, hq, rfl⟩ := List.mem_map.mp hd
  exact ok_nm (g.g q hq).2.1
theorem topy_tns (ns : List (Str × Int)) (c : Tk) : toPy (.tuple c (ns.map tn)) = .tuple (ns.map fun p => toPy (tn p)) := by
  show PyData.tuple (toPys (ns.map tn)) = _
  rw [toPys_eq, List.map_map]
  rfl
section
variable {home : Str} {n : Int} {ks wd ab : Str} {d4 : D} {b d e : Str}
abbrev fkD (home wd b d e : Str) : D := .list [.str (wd ++ "@" ++ home), .str b, .str d, .str e]
theorem dr_end_s {E : Dn} {c : Cell} (p : PL c) (lh : low home) (lw : low wd) (nh : 1 ≤ home.length ∧ home.length ≤ 3) (nw : 1 ≤ wd.length ∧ wd.length ≤ 4) (n0 : 0 ≤ n) (n1 : n ≤ 99999) (hk : ks ∈ kindsL) (oa : K05.okS ab = true) (ha : aboutD ks (.str ab) = true) (hb : Body ks d4)
    (h : ∀ (d5 d6 : D) (c' : Cell) (cs : Cs), PL c' → Deed home n ks wd ab d4 d5 d6 → E.rt (dTup home n ks wd ab d4 d5 d6) (c' :: cs)) :
    dr_end E [c, .fro (fkD home wd b d e), .fro (.str ks), .fro (ttl home n), .fro (.str ab), .fro d4] := by
  have s : 1000 ≤ sizeLine := by decide
  have hn : nameD (toPy (ttl home n)) = true := by
    show (wordS home && (decide (0 ≤ n) && decide (n ≤ 99999))) = true
    rw [(show K05.low home from lh).word (by omega) (by omega), decide_eq_true n0, decide_eq_true n1]
    rfl
  have hw : personD (.str (wd ++ "@" ++ home)) = true := Pd.person ⟨wd, home, lw, lh, nw, nh, rfl⟩
  have hk1 : oneOfD kindsL (.str ks) = true := by
    have all : ∀ z ∈ kindsL, oneOfD kindsL (.str z) = true := by unfold kindsL; decide +kernel
    exact all ks hk
  have t : EvT (mTest (mOp oEq (mVar 2) (mC (.str "begin")))) [c, .fro (fkD home wd b d e), .fro (.str ks), .fro (ttl home n), .fro (.str ab), .fro d4] (decide (ks = "begin")) := evt_test (ev_op (a := .str ks) (b := .str "begin") (ev_var rfl) ev_c fun k q => q)
  have dk : decide (V.str ks = V.str "begin") = decide (ks = "begin") := by rw [Bool.eq_iff_iff]; simp
  unfold dr_end
  by_cases q : ks = "begin"
  · rw [decide_eq_true q] at t
    have x0 : Ev (mOp oIx (mVar 1) (mC (.int 0))) [c, .fro (fkD home wd b d e), .fro (.str ks), .fro (ttl home n), .fro (.str ab), .fro d4] (.str (wd ++ "@" ++ home)) := ev_op (a := fkD home wd b d e) (b := .int 0) (ev_var rfl) ev_c fun k q => q
    have z0 : Ev (mTupZ aNil) [c, .fro (fkD home wd b d e), .fro (.str ks), .fro (ttl home n), .fro (.str ab), .fro d4] (.tuple .frz []) := ev_tupZ eva_nil (Nat.zero_le _)
    have ex : Ev (mTup (aCons (mVar 3) (aCons (mVar 2) (aCons (mOp oIx (mVar 1) (mC (.int 0))) (aCons (mVar 4) (aCons (mVar 5) (aCons (mTupZ aNil) (aCons (mTupZ aNil) aNil)))))))) [c, .fro (fkD home wd b d e), .fro (.str ks), .fro (ttl home n), .fro (.str ab), .fro d4] (dTup home n ks wd ab d4 (.tuple .frz []) (.tuple .frz [])) := ev_tup (eva_cons (ev_var rfl) (eva_cons (ev_var rfl) (eva_cons x0 (eva_cons (ev_var rfl) (eva_cons (ev_var rfl) (eva_cons z0 (eva_cons z0 eva_nil))))))) (Nat.le_of_ble_eq_true rfl)
    refine if1_st t (ret_st (ex _ (h _ _ c _ p ⟨⟨hn, hk1, hw, ha, hb.1, ?_, ?_⟩, hk, lh, lw, nh, nw, n0, n1, oa, hb.2, ok_tup ok_nil (Nat.zero_le _), ok_tup ok_nil (Nat.zero_le _)⟩)))
    · show namesD (decide (V.str ks = V.str "begin")) _ (.tuple []) = true
      rw [dk, decide_eq_true q]; rfl
    · show namesD (decide (V.str ks = V.str "begin")) _ (.tuple []) = true
      rw [dk, decide_eq_true q]; rfl
  · rw [decide_eq_false q] at t
    refine if0_st t (ret_st (tup_st ?_))
    have x0 : Ev (mOp oIx (mVar 1) (mC (.int 0))) [c, .fro (fkD home wd b d e), .fro (.str ks), .fro (ttl home n), .fro (.str ab), .fro d4] (.str (wd ++ "@" ++ home)) := ev_op (a := fkD home wd b d e) (b := .int 0) (ev_var rfl) ev_c fun k q => q
    refine a_st (ev_var (d := ttl home n) rfl _ (a_st (ev_var (d := .str ks) rfl _ (a_st (x0 _ (a_st (ev_var (d := .str ab) rfl _ (a_st (ev_var (d := d4) rfl _ (a_st ?_))))))))))
    obtain ⟨u1, u2, rfl, pu⟩ := id p
    refine own2_st rfl (ev_var (d := ttl home n) rfl) ev_c (titles_s ⟨by decide, by decide⟩ lh nh.1 nh.2 p fun ns c' p' ne l6 r g => ?_)
    obtain ⟨v1, v2, rfl, pv⟩ := id p'
    refine a_st ?_
    refine (own2_st (ρ := [.own (.list [.int v1, .int v2]), .fro (fkD home wd b d e), .fro (.str ks), .fro (ttl home n), .fro (.str ab), .fro d4]) rfl (ev_var (d := ttl home n) rfl) ev_c (titles_s ⟨by decide, by decide⟩ lh nh.1 nh.2 p' fun ns2 c2 p2 ne2 l62 r2 g2 => ?_))
    refine (show 7 ≤ sizeLine ∧ _ from ⟨by omega, ?_⟩)
    refine h _ _ c2 _ p2 ⟨⟨hn, hk1, hw, ha, hb.1, ?_, ?_⟩, hk, lh, lw, nh, nw, n0, n1, oa, hb.2, ok_tns g l6, ok_tns g2 l62⟩
    · rw [topy_tns]
      show namesD (decide (V.str ks = V.str "begin")) _ _ = true
      rw [dk, decide_eq_false q]; exact g.names ne l6 r
    · rw [topy_tns]
      show namesD (decide (V.str ks = V.str "begin")) _ _ = true
      rw [dk, decide_eq_false q]; exact g2.names ne2 l62 r2
theorem about_ok {z : Str} (hz : Pd z) (hk : ks ∈ kindsL) : aboutD ks (.str (if ks = "seat" then z else "")) = true ∧ K05.okS (if ks = "seat" then z else "") = true := by
  by_cases q : ks = "seat"
  · subst q
    exact ⟨hz.person, hz.ok⟩
  · rw [if_neg q]
    have all : ∀ y ∈ kindsL, y ≠ "seat" → aboutD y (.str "") = true := by unfold kindsL; decide +kernel
    exact ⟨all ks hk q, by decide +kernel⟩
theorem about_s {c x4 x5 : Cell} {k : D → Cs → Prop} (p : PL c) (hp : ∀ z ∈ [wd ++ "@" ++ home, b, d, e], Pd z) (hk : ks ∈ kindsL)
    (h : ∀ (ab : Str) (c' : Cell), PL c' → aboutD ks (.str ab) = true → K05.okS ab = true → k (.str ab) [c', .fro (fkD home wd b d e), .fro (.str ks), .fro (ttl home n), x4, x5]) :
    dr_about [c, .fro (fkD home wd b d e), .fro (.str ks), .fro (ttl home n), x4, x5] k := by
  have s : 1000 ≤ sizeLine := by decide
  unfold dr_about
  refine op_st (lst_st (a_st (ev_c _ (a_st (op_st (ev_var (d := fkD home wd b d e) rfl _ (call_take (j := 0) (n := 4) rfl p (fun k' q => q) (by decide) (by decide) fun t c' t0 t1 p' => pick t0 t1 fun x hx => ?_)))))))
  have ex : ∃ z : Str, x = .str z ∧ Pd z := by
    simp only [List.mem_cons, List.not_mem_nil, or_false] at hx
    rcases hx with rfl | rfl | rfl | rfl
    · exact ⟨_, rfl, hp _ (by simp)⟩
    · exact ⟨_, rfl, hp _ (by simp)⟩
    · exact ⟨_, rfl, hp _ (by simp)⟩
    · exact ⟨_, rfl, hp _ (by simp)⟩
  obtain ⟨z, rfl, hz⟩ := ex
  refine (show 2 ≤ sizeLine ∧ _ from ⟨by omega, ?_⟩)
  have ei : Ev (mUn oInt (mOp oEq (mVar 2) (mC (.str "seat")))) [c', .fro (fkD home wd b d e), .fro (.str ks), .fro (ttl home n), x4, x5] (.int (if decide (ks = "seat") = true then 1 else 0)) := ev_un (a := .bool (decide (ks = "seat"))) (ev_op (a := .str ks) (b := .str "seat") (ev_var rfl) ev_c fun k q => q) fun k q => q
  obtain ⟨h1, h2⟩ := about_ok hz hk
  have hh := h _ c' p' h1 h2
  by_cases q : ks = "seat"
  · rw [decide_eq_true q] at ei
    rw [if_pos q] at hh
    exact ei _ hh
  · rw [decide_eq_false q] at ei
    rw [if_neg q] at hh
    exact ei _ hh
end
theorem drawn_s {c : Cell} {k : D → List Cell → Prop} (p : PL c) (h : ∀ (home : Str) (n : Int) (ks wd ab : Str) (d4 d5 d6 : D) (c' : Cell), PL c' → Deed home n ks wd ab d4 d5 d6 → k (dTup home n ks wd ab d4 d5 d6) [c']) : F_law_drawn [c] k := by
  have s : 1000 ≤ sizeLine := by decide
  refine Fof.mk rfl ?_
  rw [dr_eq]
  obtain ⟨u1, u2, rfl, pu⟩ := id p
  refine seq_set (own1_st rfl ev_c (folk_s p fun c1 a b d e p1 pa pb pd pe nd => ?_))
  obtain ⟨wd, home, lw, lh, nw, nh, rfl⟩ := id pa
  refine (show sSeq (sSet 2 dr_sort) _ _ [c1, .fro (fkD home wd b d e), .un, .un, .un, .un] from ?_)
  have allp : ∀ z ∈ [wd ++ "@" ++ home, b, d, e], Pd z := fun z hz => by
    simp only [List.mem_cons, List.not_mem_nil, or_false] at hz
    rcases hz with rfl | rfl | rfl | rfl
    · exact pa
    · exact pb
    · exact pd
    · exact pe
  refine seq_set (op_st (ev_lst (eva_cons ev_c (eva_cons ev_c (eva_cons ev_c (eva_cons ev_c (eva_cons ev_c (eva_cons ev_c (eva_cons ev_c eva_nil))))))) (Nat.le_of_ble_eq_true rfl) _ (call_take (j := 0) (n := 7) rfl p1 (fun k' q => q) (by decide) (by decide) fun u c2 t0 t1 p2 => pick t0 t1 fun x hx => ?_)))
  have ex : ∃ ks : Str, x = .str ks ∧ ks ∈ kindsL := by
    have : x ∈ kindsL.map D.str := hx
    obtain ⟨z, hz, rfl⟩ := List.mem_map.mp this
    exact ⟨z, rfl, hz⟩
  obtain ⟨ks, rfl, hk⟩ := ex
  obtain ⟨v1, v2, rfl, pv⟩ := id p2
  refine (show sSeq (sSet 3 (mCall F_law_title 1 (rOwn 0 (rCons dr_home rNil)))) _ _ [.own (.list [.int v1, .int v2]), .fro (fkD home wd b d e), .fro (.str ks), .un, .un, .un] from ?_)
  have x0 : Ev (mOp oIx (mVar 1) (mC (.int 0))) [.own (.list [.int v1, .int v2]), .fro (fkD home wd b d e), .fro (.str ks), .un, .un, .un] (.str (wd ++ "@" ++ home)) := ev_op (a := fkD home wd b d e) (b := .int 0) (ev_var rfl) ev_c fun k q => q
  have lz : (wd ++ "@" ++ home).length + 2 ≤ sizeLine := by
    rw [len_app, len_app]
    have : (Str.ofString "@").length = 1 := by decide
    omega
  have xh : Ev dr_home [.own (.list [.int v1, .int v2]), .fro (fkD home wd b d e), .fro (.str ks), .un, .un, .un] (.str home) := ev_op (a := .list ([wd, home].map .str)) (b := .int 1) (ev_split x0 (Pd.split lw lh) lz) ev_c fun k q => q
  refine seq_set (own1_st rfl xh (title_s p2 fun n c3 p3 n0 n1 => ?_))
  refine (show sSeq (sSet 4 dr_about) _ _ [c3, .fro (fkD home wd b d e), .fro (.str ks), .fro (ttl home n), .un, .un] from ?_)
  refine seq_set (about_s p3 allp hk fun ab c4 p4 ha oa => ?_)
  obtain ⟨w1, w2, rfl, pw⟩ := id p4
  refine (show sSeq (sSet 5 (mCall F_law_content 1 (rOwn 0 (rCons (mVar 2) (rCons (mVar 1) (rCons (mVar 3) rNil)))))) dr_end _ [.own (.list [.int w1, .int w2]), .fro (fkD home wd b d e), .fro (.str ks), .fro (ttl home n), .fro (.str ab), .un] from ?_)
  refine seq_set (own3_st rfl (ev_var (d := .str ks) rfl) (ev_var (d := fkD home wd b d e) rfl) (ev_var (d := ttl home n) rfl) (content_s (zs := [wd ++ "@" ++ home, b, d, e]) p4 hk allp nd rfl fun x c5 p5 hb => ?_))
  refine (show dr_end _ [c5, .fro (fkD home wd b d e), .fro (.str ks), .fro (ttl home n), .fro (.str ab), .fro x] from ?_)
  exact dr_end_s p5 lh lw nh nw n0 n1 hk oa ha hb fun d5 d6 c' cs p' dd => h home n ks wd ab x d5 d6 c' p' dd
end K05d

namespace K05d
open PySem PySem.Spec PyProof.Rows L2 Br Dl K05
/-! some parts put otherwise -/
theorem told_ev {mp : ME} {ρ : Cs} {x : D} (hp : Ev mp ρ x) (ok : Ok x) : Ev (mCall F_law_told 0 (rCons mp rNil)) ρ (.str (toldS (toPy x))) := ev_call1 hp fun k q => ⟨x, rfl, ok, q⟩
theorem told_no {mp md : ME} {ρ : Cs} {x : D} {due : Str} (hp : Ev mp ρ x) (hd : Ev md ρ (.str due)) (ok : Ok x) (ht : toldS (toPy x) = due) : EvT (mTest (mOp oNe (mCall F_law_told 0 (rCons mp rNil)) md)) ρ false :=
  evt_test (ev_op (ht ▸ told_ev hp ok) hd fun k q => by simpa [oNe] using q)
abbrev ptL : List Str := ["name", "kind", "who", "about", "body", "after", "leave"]
/-- the parts' data -/
abbrev itL (home : Str) (n : Int) (ks wd ab : Str) (d4 d5 d6 : D) : List D := [ttl home n, .str ks, .str (wd ++ "@" ++ home), .str ab, d4, d5, d6]
section
variable {home : Str} {n : Int} {ks wd ab : Str} {d4 d5 d6 : D} (dd : Deed home n ks wd ab d4 d5 d6)
include dd
theorem ok_ttl : Ok (ttl home n) := ok_nm (okS_mk (by have := dd.nh; omega) fun c hc => by have := dd.lh c hc; omega)
theorem pd_who : Pd (wd ++ "@" ++ home) := ⟨wd, home, dd.lw, dd.lh, dd.nw, dd.nh, rfl⟩
theorem ok_ks : K05.okS ks = true := by
  have all : ∀ z ∈ kindsL, K05.okS z = true := by unfold kindsL; decide +kernel
  exact all ks dd.kd
theorem ok_it : ∀ x ∈ itL home n ks wd ab d4 d5 d6, Ok x :=
  ok_cons (ok_ttl dd) (ok_cons (ok_str (ok_ks dd)) (ok_cons (ok_str (pd_who dd).ok) (ok_cons (ok_str dd.oa) (ok_cons dd.o4 (ok_cons dd.o5 (ok_cons dd.o6 ok_nil))))))
theorem ok_bad {i : Int} : ∀ x ∈ badD (ttl home n) ks i, Ok x := by
  have o1 : Ok (.list []) := by unfold Ok; decide +kernel
  have o2 : Ok (.list [.tuple .mad [.str "a", .int 1]]) := by unfold Ok; decide +kernel
  have oS : ∀ z ∈ (["x", "out", "x\n", "A", "a", "b", "say "] : List Str), K05.okS z = true := by decide +kernel
  unfold badD
  split
  · exact ok_cons ok_none (ok_cons (ok_str (oS _ (by simp))) (ok_cons (ok_str (oS _ (by simp))) (ok_cons ok_int (ok_cons (ok_str (ok_ks dd)) ok_nil))))
  · split
    · exact ok_cons ok_none (ok_cons ok_int (ok_cons (ok_str (oS _ (by simp))) (ok_cons (ok_tup (ok_cons ok_int ok_nil) (Nat.le_of_ble_eq_true rfl)) (ok_cons o1 (ok_cons (ok_nm (oS _ (by simp))) ok_nil)))))
    · split
      · exact ok_cons ok_none (ok_cons o2 (ok_cons (ok_tup (ok_cons (ok_nm (oS _ (by simp))) ok_nil) (Nat.le_of_ble_eq_true rfl)) (ok_cons (ok_tup (ok_cons (ok_ttl dd) ok_nil) (Nat.le_of_ble_eq_true rfl)) (ok_cons (ok_tup (ok_cons (ok_nm (oS _ (by simp))) (ok_cons (ok_nm (oS _ (by simp))) ok_nil)) (Nat.le_of_ble_eq_true rfl)) (ok_cons (ok_tup (ok_cons ok_int ok_nil) (Nat.le_of_ble_eq_true rfl)) ok_nil)))))
      · exact ok_cons ok_none (ok_cons ok_int (ok_cons (ok_str (oS _ (by simp))) (ok_cons (ok_tup (ok_cons (ok_str (oS _ (by simp))) ok_nil) (Nat.le_of_ble_eq_true rfl)) (ok_cons o1 (ok_cons (ok_str (oS _ (by simp))) ok_nil)))))
theorem py_bad {i : Int} {L : List PyData} (h : (badD (ttl home n) ks i).map toPy = L) {x : D} (hx : x ∈ badD (ttl home n) ks i) : toPy x ∈ L := h ▸ List.mem_map.mpr ⟨x, hx, rfl⟩
/-- what is told of parts of which the first that is otherwise is f -/
theorem told0 {x0 x1 x2 x3 x4 x5 x6 : D} (h : x0 ∈ badD (ttl home n) ks 0) : toldS (toPy (.tuple .frz [x0, x1, x2, x3, x4, x5, x6])) = ("name" : Str) := at0 (bad0 _ (py_bad dd rfl h))
theorem told1 {x1 x2 x3 x4 x5 x6 : D} (h : x1 ∈ badD (ttl home n) ks 1) : toldS (toPy (.tuple .frz [ttl home n, x1, x2, x3, x4, x5, x6])) = ("kind" : Str) := at1' dd.whole (bad1 _ (py_bad dd rfl h))
theorem told2 {x2 x3 x4 x5 x6 : D} (h : x2 ∈ badD (ttl home n) ks 2) : toldS (toPy (.tuple .frz [ttl home n, .str ks, x2, x3, x4, x5, x6])) = ("who" : Str) := at2 dd.whole (bad2 _ (py_bad dd rfl h))
theorem told3 {y : Str} (hy : personS y = true) {x3 x4 x5 x6 : D} (h : x3 ∈ badD (ttl home n) ks 3) : toldS (toPy (.tuple .frz [ttl home n, .str ks, .str y, x3, x4, x5, x6])) = ("about" : Str) := at3 dd.whole hy (bad3 _ dd.kd _ (py_bad dd rfl h))
theorem told4 {y : Str} (hy : personS y = true) {x4 x5 x6 : D} (h : x4 ∈ badD (ttl home n) ks 4) : toldS (toPy (.tuple .frz [ttl home n, .str ks, .str y, .str ab, x4, x5, x6])) = ("body" : Str) := at4 dd.whole hy (bad4 _ dd.kd _ (py_bad dd rfl h))
theorem told5 {y : Str} (hy : personS y = true) {x5 x6 : D} (h : x5 ∈ badD (ttl home n) ks 5) : toldS (toPy (.tuple .frz [ttl home n, .str ks, .str y, .str ab, d4, x5, x6])) = ("after" : Str) := at5 dd.whole hy (bad56 dd.whole.h0 _ (py_bad dd rfl h))
theorem told6 {y : Str} (hy : personS y = true) {x6 : D} (h : x6 ∈ badD (ttl home n) ks 6) : toldS (toPy (.tuple .frz [ttl home n, .str ks, .str y, .str ab, d4, d5, x6])) = ("leave" : Str) := at6 dd.whole hy (bad56 dd.whole.h0 _ (py_bad dd rfl h))
end
/-- parts of which the first that is otherwise is f -/
structure Bent (home : Str) (n : Int) (ks wd ab : Str) (d4 d5 d6 : D) (xs : List D) (f : Nat) : Prop where
  len : xs.length = 7
  low : ∀ i, i < f → xs[i]? = (itL home n ks wd ab d4 d5 d6)[i]?
  bad : f < 7 → ∃ x ∈ badD (ttl home n) ks f, xs[f]? = some x
  le : f ≤ 7
  ok : ∀ x ∈ xs, Ok x
section
variable {home : Str} {n : Int} {ks wd ab : Str} {d4 d5 d6 : D} (dd : Deed home n ks wd ab d4 d5 d6)
include dd
theorem bent0 : Bent home n ks wd ab d4 d5 d6 (itL home n ks wd ab d4 d5 d6) 7 := ⟨rfl, fun _ _ => rfl, fun z => absurd z (by decide), Nat.le_refl _, ok_it dd⟩
theorem Bent.put {xs : List D} {f : Nat} (b : Bent home n ks wd ab d4 d5 d6 xs f) {a : Nat} (ha : a < 7) {x : D} (hx : x ∈ badD (ttl home n) ks a) : Bent home n ks wd ab d4 d5 d6 (xs.set a x) (if a < f then a else f) := by
  have l := b.len
  refine ⟨by rw [List.length_set]; exact l, fun i hi => ?_, fun hf => ?_, ?_, fun y hy => ?_⟩
  · have h1 : i ≠ a := by split at hi <;> omega
    have h2 : i < f := by split at hi <;> omega
    rw [List.getElem?_set_ne (by omega)]
    exact b.low i h2
  · by_cases q : a < f
    · rw [if_pos q]
      exact ⟨x, hx, by rw [List.getElem?_set_self (by omega)]⟩
    · rw [if_neg q]
      rw [if_neg q] at hf
      by_cases e : a = f
      · subst e
        exact ⟨x, hx, by rw [List.getElem?_set_self (by omega)]⟩
      · rw [List.getElem?_set_ne e]
        exact b.bad hf
  · have := b.le
    split <;> omega
  · rcases List.mem_or_eq_of_mem_set hy with z | z
    · exact b.ok y z
    · rw [z]; exact ok_bad dd x hx
theorem bent_told {xs : List D} {f : Nat} (b : Bent home n ks wd ab d4 d5 d6 xs f) (hf : f < 7) : ∃ z, ptL[f]? = some z ∧ toldS (toPy (.tuple .frz xs)) = z := by
  obtain ⟨x, hx, e⟩ := b.bad hf
  have lw := b.low
  have hp : personS (wd ++ "@" ++ home) = true := (pd_who dd).person
  match xs, b.len with
  | [x0, x1, x2, x3, x4, x5, x6], _ =>
    have w0 : 0 < f → x0 = ttl home n := fun z => by simpa using lw 0 z
    have w1 : 1 < f → x1 = .str ks := fun z => by simpa using lw 1 z
    have w2 : 2 < f → x2 = .str (wd ++ "@" ++ home) := fun z => by simpa using lw 2 z
    have w3 : 3 < f → x3 = .str ab := fun z => by simpa using lw 3 z
    have w4 : 4 < f → x4 = d4 := fun z => by simpa using lw 4 z
    have w5 : 5 < f → x5 = d5 := fun z => by simpa using lw 5 z
    have : f = 0 ∨ f = 1 ∨ f = 2 ∨ f = 3 ∨ f = 4 ∨ f = 5 ∨ f = 6 := by omega
    rcases this with rfl | rfl | rfl | rfl | rfl | rfl | rfl
    · cases (show x0 = x by simpa using e)
      exact ⟨_, rfl, told0 dd hx⟩
    · cases (show x1 = x by simpa using e)
      rw [w0 (by decide)]
      exact ⟨_, rfl, told1 dd hx⟩
    · cases (show x2 = x by simpa using e)
      rw [w0 (by decide), w1 (by decide)]
      exact ⟨_, rfl, told2 dd hx⟩
    · cases (show x3 = x by simpa using e)
      rw [w0 (by decide), w1 (by decide), w2 (by decide)]
      exact ⟨_, rfl, told3 dd hp hx⟩
    · cases (show x4 = x by simpa using e)
      rw [w0 (by decide), w1 (by decide), w2 (by decide), w3 (by decide)]
      exact ⟨_, rfl, told4 dd hp hx⟩
    · cases (show x5 = x by simpa using e)
      rw [w0 (by decide), w1 (by decide), w2 (by decide), w3 (by decide), w4 (by decide)]
      exact ⟨_, rfl, told5 dd hp hx⟩
    · cases (show x6 = x by simpa using e)
      rw [w0 (by decide), w1 (by decide), w2 (by decide), w3 (by decide), w4 (by decide), w5 (by decide)]
      exact ⟨_, rfl, told6 dd hp hx⟩
end
end K05d

namespace K05d
open PySem PySem.Spec PyProof.Rows L2 Br Dl K05
abbrev ptD : D := .list (ptL.map .str)
def rt_body : MS := (sSeq (sSet 6 (mCall F_law_take 1 (rOwn 0 (rCons (mC (.int 7)) rNil))))
    (sSeq (sPut 3 (mCall F_law_bad 1 (rOwn 0 (rCons (mVar 1) (rCons (mVar 6) rNil)))) (mVar 6))
    (sSet 4 (mOn oMin (aCons (mVar 4) (aCons (mVar 6) aNil))))))
def rt_other : ME := (mOp oAdd (mOp oAdd (mSlice (mVar 1) pNo (pSome (mC (.int 2)))) (mTup (aCons (mOp oAdd (mOp oIx (mVar 1) (mC (.int 2))) (mC (.str "q"))) aNil))) (mSlice (mVar 1) (pSome (mC (.int 3))) pNo))
def rt_end : MS := (sSeq (sSet 6 (mOp oAdd (mC (.int 3)) (mCall F_law_take 1 (rOwn 0 (rCons (mC (.int 4)) rNil)))))
    (sSeq (sSetO 3 (mUn oLstOf (mVar 7)))
    (sSeq (sPut 3 (mCall F_law_bad 1 (rOwn 0 (rCons (mVar 1) (rCons (mVar 6) rNil)))) (mVar 6))
    (sRet (mOp oEq (mCall F_law_told 0 (rCons (mUn oTupOf (mOwn 3)) rNil)) (mOp oIx (mVar 2) (mVar 6)))))))
def rt_mid : MS := (sSeq (ret0 (mTest (mOp oNe (mCall F_law_told 0 (rCons (mUn oTupOf (mOwn 3)) rNil)) (mOp oIx (mVar 2) (mVar 4)))))
    (sSeq (sSet 7 rt_other)
    (sSeq (ret0 (mAnd (mTest (mOp oLt (mUn oLen (mOp oIx (mOp oIx (mVar 1) (mC (.int 0))) (mC (.int 0)))) (mC (.int 8)))) (mTest (mOp oNe (mCall F_law_told 0 (rCons (mVar 7) rNil)) (mC (.str "house")))))) rt_end)))
theorem right_eq : b_law_right = (sSeq (sSet 2 (mLst (aCons (mC (.str "name")) (aCons (mC (.str "kind")) (aCons (mC (.str "who")) (aCons (mC (.str "about")) (aCons (mC (.str "body")) (aCons (mC (.str "after")) (aCons (mC (.str "leave")) aNil))))))))) (sSeq (sSetO 3 (mUn oLstOf (mVar 1))) (sSeq (sSet 4 (mC (.int 7))) (sSeq (sFor (mRng1 (aCons (mOp oAdd (mC (.int 2)) (mCall F_law_take 1 (rOwn 0 (rCons (mC (.int 2)) rNil)))) aNil)) (mgName 5) rt_body) rt_mid)))) := rfl
theorem ix7 {a : Int} (a0 : 0 ≤ a) (a1 : a < 7) : ixN 7 a = some a.toNat := by
  unfold ixN
  split <;> simp_all <;> omega
theorem put_st {i : Nat} {mv mi : ME} {E : Dn} {ρ : Cs} (q : mv ρ fun dv ρ1 => mOwn i ρ1 fun _ _ => mi ρ1 fun di ρ2 => match ρ2[i]? with | some (.own d) => oPut d di dv fun d' => E.nx (ρ2.set i (.own d')) | _ => False) : sPut i mv mi E ρ := q
theorem seq_st {a b : MS} {E : Dn} {ρ : Cs} (q : a { E with nx := b E } ρ) : sSeq a b E ρ := q
section
variable {home : Str} {n : Int} {ks wd ab : Str} {d4 d5 d6 : D} (dd : Deed home n ks wd ab d4 d5 d6)
include dd
/-- one part put otherwise -/
theorem put_s {E : Dn} {c x4 x5 x7 : Cell} {xs : List D} {a : Int} (l7 : xs.length = 7) (a0 : 0 ≤ a) (a1 : a < 7) (p : PL c)
    (h : ∀ (x : D) (c' : Cell), PL c' → x ∈ badD (ttl home n) ks a → E.nx [c', .fro (dTup home n ks wd ab d4 d5 d6), .fro ptD, .own (.list (xs.set a.toNat x)), x4, x5, .fro (.int a), x7]) :
    sPut 3 (mCall F_law_bad 1 (rOwn 0 (rCons (mVar 1) (rCons (mVar 6) rNil)))) (mVar 6) E [c, .fro (dTup home n ks wd ab d4 d5 d6), .fro ptD, .own (.list xs), x4, x5, .fro (.int a), x7] := by
  obtain ⟨u1, u2, rfl, pu⟩ := id p
  refine put_st (own2_st rfl (ev_var (d := dTup home n ks wd ab d4 d5 d6) rfl) (ev_var (d := .int a) rfl) (bad_s p fun x hx c' p' => ?_))
  refine (show (match ixN xs.length a with | some n1 => E.nx [c', .fro (dTup home n ks wd ab d4 d5 d6), .fro ptD, .own (.list (xs.set n1 x)), x4, x5, .fro (.int a), x7] | none => False) from ?_)
  rw [l7, ix7 a0 a1]
  exact h x c' p' hx
theorem rt_body_s {E : Dn} {c x5 x6 x7 : Cell} {xs : List D} {f : Nat} (b : Bent home n ks wd ab d4 d5 d6 xs f) (p : PL c)
    (h : ∀ (xs' : List D) (f' : Nat) (c' x6' : Cell), PL c' → f' < 7 → Bent home n ks wd ab d4 d5 d6 xs' f' → E.nx [c', .fro (dTup home n ks wd ab d4 d5 d6), .fro ptD, .own (.list xs'), .fro (.int f'), x5, x6', x7]) :
    rt_body E [c, .fro (dTup home n ks wd ab d4 d5 d6), .fro ptD, .own (.list xs), .fro (.int f), x5, x6, x7] := by
  unfold rt_body
  refine seq_set (call_take (j := 0) (n := 7) rfl p (fun k' q => q) (by decide) (by decide) fun a c1 a0 a1 p1 => ?_)
  refine (show sSeq _ _ E [c1, .fro (dTup home n ks wd ab d4 d5 d6), .fro ptD, .own (.list xs), .fro (.int f), x5, .fro (.int a), x7] from seq_st ?_)
  refine put_s dd b.len a0 a1 p1 fun x c2 p2 hx => ?_
  have e : ((a.toNat : Nat) : Int) = a := Int.toNat_of_nonneg a0
  have bb := Bent.put dd b (a := a.toNat) (x := x) (by omega) (by rw [e]; exact hx)
  refine (show E.nx [c2, .fro (dTup home n ks wd ab d4 d5 d6), .fro ptD, .own (.list (xs.set a.toNat x)), .fro (.int (if a < (f : Int) then a else f)), x5, .fro (.int a), x7] from ?_)
  have ei : (if a < (f : Int) then a else (f : Int)) = ((if a.toNat < f then a.toNat else f : Nat) : Int) := by
    by_cases q : a < (f : Int)
    · rw [if_pos q, if_pos (by omega), e]
    · rw [if_neg q, if_neg (by omega)]
  rw [ei]
  refine h _ _ c2 _ p2 ?_ bb
  have := b.le
  split <;> omega
theorem rt_L {E : Dn} {x7 : Cell} : ∀ (ts : List D) (c x5 x6 : Cell) (xs : List D) (f : Nat), PL c → Bent home n ks wd ab d4 d5 d6 xs f → (f < 7 ∨ ts ≠ []) →
    (∀ (xs' : List D) (f' : Nat) (c' x5' x6' : Cell), PL c' → f' < 7 → Bent home n ks wd ab d4 d5 d6 xs' f' → E.nx [c', .fro (dTup home n ks wd ab d4 d5 d6), .fro ptD, .own (.list xs'), .fro (.int f'), x5', x6', x7]) →
    sForL (mgName 5) rt_body E ts [c, .fro (dTup home n ks wd ab d4 d5 d6), .fro ptD, .own (.list xs), .fro (.int f), x5, x6, x7]
  | [], c, x5, x6, xs, f, p, b, hf, h => h xs f c x5 x6 p (hf.resolve_right fun z => z rfl) b
  | t :: ts, c, x5, x6, xs, f, p, b, hf, h => by
    refine (show rt_body _ [c, .fro (dTup home n ks wd ab d4 d5 d6), .fro ptD, .own (.list xs), .fro (.int f), .fro t, x6, x7] from ?_)
    exact rt_body_s dd b p fun xs' f' c' x6' p' hf' b' => rt_L ts c' _ x6' xs' f' p' b' (.inl hf') h
/-- the person with a letter more -/
theorem pd_other : personS (wd ++ "@" ++ home ++ "q") = true ∧ K05.okS (wd ++ "@" ++ home ++ "q") = true ∧ Txt.split (wd ++ "@" ++ home ++ "q") "@" = [wd, home ++ "q"] := by
  have nh := dd.nh
  have nw := dd.nw
  have e : wd ++ "@" ++ home ++ "q" = wd ++ "@" ++ (home ++ "q") := by
    refine str_ext ?_
    have a1 : ∀ x y : Str, (x ++ y).cps.toList = x.cps.toList ++ y.cps.toList := fun x y => Array.toList_append
    rw [a1, a1, a1, a1, a1, a1, List.append_assoc]
  have lq : low (home ++ "q") := low_app dd.lh (by unfold low; decide +kernel)
  have l1 : ("q" : Str).length = 1 := by decide
  have nq := len_app home "q"
  rw [e]
  have es := Pd.split dd.lw lq
  refine ⟨?_, ?_, es⟩
  · unfold personS
    rw [show Txt.split (wd ++ "@" ++ (home ++ "q")) at1 = [wd, home ++ "q"] from es]
    show (wordS wd && wordS (home ++ "q")) = true
    rw [(show K05.low wd from dd.lw).word (by omega) (by omega), (show K05.low (home ++ "q") from lq).word (by omega) (by omega)]
    rfl
  · refine okS_mk ?_ fun c hc => ?_
    · rw [len_app, len_app]
      have : (Str.ofString "@").length = 1 := by decide
      omega
    · have a1 : ∀ x y : Str, (x ++ y).cps.toList = x.cps.toList ++ y.cps.toList := fun x y => Array.toList_append
      rw [a1, a1] at hc
      rcases List.mem_append.mp hc with q | q
      · rcases List.mem_append.mp q with q | q
        · have := dd.lw c q; omega
        · rw [List.mem_singleton.mp q]; decide
      · have := lq c q; omega
abbrev otL (home : Str) (n : Int) (ks wd ab : Str) (d4 d5 d6 : D) : List D := [ttl home n, .str ks, .str (wd ++ "@" ++ home ++ "q"), .str ab, d4, d5, d6]
theorem ok_ot : ∀ x ∈ otL home n ks wd ab d4 d5 d6, Ok x :=
  ok_cons (ok_ttl dd) (ok_cons (ok_str (ok_ks dd)) (ok_cons (ok_str (pd_other dd).2.1) (ok_cons (ok_str dd.oa) (ok_cons dd.o4 (ok_cons dd.o5 (ok_cons dd.o6 ok_nil))))))
theorem other_ev {c x2 x3 x4 x5 x6 x7 : Cell} : Ev rt_other [c, .fro (dTup home n ks wd ab d4 d5 d6), x2, x3, x4, x5, x6, x7] (.tuple .mad (otL home n ks wd ab d4 d5 d6)) := by
  have s : 1000 ≤ sizeLine := by decide
  have nh := dd.nh
  have nw := dd.nw
  have lz : (wd ++ "@" ++ home).length + ("q" : Str).length ≤ sizeLine := by
    rw [len_app, len_app]
    have : (Str.ofString "@").length = 1 := by decide
    have : ("q" : Str).length = 1 := by decide
    omega
  have a1 : Ev (mSlice (mVar 1) pNo (pSome (mC (.int 2)))) [c, .fro (dTup home n ks wd ab d4 d5 d6), x2, x3, x4, x5, x6, x7] (.tuple .mad [ttl home n, .str ks]) := fun k q => q
  have a3 : Ev (mSlice (mVar 1) (pSome (mC (.int 3))) pNo) [c, .fro (dTup home n ks wd ab d4 d5 d6), x2, x3, x4, x5, x6, x7] (.tuple .mad [.str ab, d4, d5, d6]) := fun k q => q
  have x2' : Ev (mOp oIx (mVar 1) (mC (.int 2))) [c, .fro (dTup home n ks wd ab d4 d5 d6), x2, x3, x4, x5, x6, x7] (.str (wd ++ "@" ++ home)) := ev_op (a := dTup home n ks wd ab d4 d5 d6) (b := .int 2) (ev_var rfl) ev_c fun k q => q
  have a2 : Ev (mTup (aCons (mOp oAdd (mOp oIx (mVar 1) (mC (.int 2))) (mC (.str "q"))) aNil)) [c, .fro (dTup home n ks wd ab d4 d5 d6), x2, x3, x4, x5, x6, x7] (.tuple .mad [.str (wd ++ "@" ++ home ++ "q")]) := ev_tup (eva_cons (ev_op x2' ev_c fun k q => ⟨lz, q⟩) eva_nil) (Nat.le_of_ble_eq_true rfl)
  have a12 : Ev (mOp oAdd (mSlice (mVar 1) pNo (pSome (mC (.int 2)))) (mTup (aCons (mOp oAdd (mOp oIx (mVar 1) (mC (.int 2))) (mC (.str "q"))) aNil))) [c, .fro (dTup home n ks wd ab d4 d5 d6), x2, x3, x4, x5, x6, x7] (.tuple .mad [ttl home n, .str ks, .str (wd ++ "@" ++ home ++ "q")]) := ev_op a1 a2 fun k q => ⟨by show 3 ≤ sizeLine; omega, q⟩
  exact ev_op a12 a3 fun k q => ⟨by show 7 ≤ sizeLine; omega, q⟩
theorem told_other {c : Tk} : toldS (toPy (.tuple c (otL home n ks wd ab d4 d5 d6))) = ("house" : Str) := by
  obtain ⟨h1, h2, h3⟩ := pd_other dd
  refine at7 dd.whole h1 (decide_eq_false fun z => ?_)
  have e : hsP (.str (wd ++ "@" ++ home ++ "q")) = home ++ "q" := by
    show (Txt.split (wd ++ "@" ++ home ++ "q") at1).getD 1 "" = _
    rw [show Txt.split (wd ++ "@" ++ home ++ "q") at1 = [wd, home ++ "q"] from h3]
    rfl
  have z1 : hsP (.str (wd ++ "@" ++ home ++ "q")) = (nmOf (toPy (ttl home n))).1 := V.str.inj z
  rw [e] at z1
  have z2 : home ++ "q" = home := z1
  have z3 := congrArg Str.length z2
  rw [len_app] at z3
  have : ("q" : Str).length = 1 := by decide
  omega
theorem rt_end_s {E : Dn} {c x3 x4 x5 x6 : Cell} (p : PL c) (h : ∀ (c' : Cell) (cs : Cs), PL c' → E.rt (.bool true) (c' :: cs)) :
    rt_end E [c, .fro (dTup home n ks wd ab d4 d5 d6), .fro ptD, x3, x4, x5, x6, .fro (.tuple .mad (otL home n ks wd ab d4 d5 d6))] := by
  unfold rt_end
  refine seq_set (op_st (ev_c _ (call_take (j := 0) (n := 4) rfl p (fun k' q => q) (by decide) (by decide) fun t c1 t0 t1 p1 => ?_)))
  refine (show sSeq (sPut 3 (mCall F_law_bad 1 (rOwn 0 (rCons (mVar 1) (rCons (mVar 6) rNil)))) (mVar 6)) _ E [c1, .fro (dTup home n ks wd ab d4 d5 d6), .fro ptD, .own (.list (otL home n ks wd ab d4 d5 d6)), x4, x5, .fro (.int (3 + t)), .fro (.tuple .mad (otL home n ks wd ab d4 d5 d6))] from seq_st ?_)
  refine put_s dd rfl (by omega) (by omega) p1 fun x c2 p2 hx => ?_
  obtain ⟨hp, ho, _⟩ := pd_other dd
  have hok : ∀ y ∈ (otL home n ks wd ab d4 d5 d6).set (3 + t).toNat x, Ok y := fun y hy => by
    rcases List.mem_or_eq_of_mem_set hy with z | z
    · exact ok_ot dd y z
    · rw [z]; exact ok_bad dd x hx
  have fin : ∀ (xs : List D) (a : Int) (z : Str), (∀ y ∈ xs, Ok y) → xs.length ≤ 1000 → atI (ptL.map D.str) a = some (.str z) → toldS (toPy (.tuple .frz xs)) = z → sRet (mOp oEq (mCall F_law_told 0 (rCons (mUn oTupOf (mOwn 3)) rNil)) (mOp oIx (mVar 2) (mVar 6))) E [c2, .fro (dTup home n ks wd ab d4 d5 d6), .fro ptD, .own (.list xs), x4, x5, .fro (.int a), .fro (.tuple .mad (otL home n ks wd ab d4 d5 d6))] := fun xs a z hy hl hz ht => by
    have e1 : Ev (mUn oTupOf (mOwn 3)) [c2, .fro (dTup home n ks wd ab d4 d5 d6), .fro ptD, .own (.list xs), x4, x5, .fro (.int a), .fro (.tuple .mad (otL home n ks wd ab d4 d5 d6))] (.tuple .frz xs) := fun k q => q
    have e2 : Ev (mOp oIx (mVar 2) (mVar 6)) [c2, .fro (dTup home n ks wd ab d4 d5 d6), .fro ptD, .own (.list xs), x4, x5, .fro (.int a), .fro (.tuple .mad (otL home n ks wd ab d4 d5 d6))] (.str z) := ev_op (a := ptD) (b := .int a) (ev_var rfl) (ev_var rfl) fun k q => by
      show match atI (ptL.map D.str) a with | some d => k d | none => False
      rw [hz]
      exact q
    have e3 := told_ev e1 (ok_tup hy hl)
    rw [ht] at e3
    have e4 : Ev (mOp oEq (mCall F_law_told 0 (rCons (mUn oTupOf (mOwn 3)) rNil)) (mOp oIx (mVar 2) (mVar 6))) [c2, .fro (dTup home n ks wd ab d4 d5 d6), .fro ptD, .own (.list xs), x4, x5, .fro (.int a), .fro (.tuple .mad (otL home n ks wd ab d4 d5 d6))] (.bool true) := ev_op (a := .str z) (b := .str z) e3 e2 fun k q => by
      show k (.bool (decide (z = z)))
      rw [decide_eq_true rfl]
      exact q
    exact ret_st (e4 _ (h c2 _ p2))
  have : t = 0 ∨ t = 1 ∨ t = 2 ∨ t = 3 := by omega
  rcases this with rfl | rfl | rfl | rfl
  · exact fin _ _ "about" hok (Nat.le_of_ble_eq_true rfl) rfl (told3 dd hp hx)
  · exact fin _ _ "body" hok (Nat.le_of_ble_eq_true rfl) rfl (told4 dd hp hx)
  · exact fin _ _ "after" hok (Nat.le_of_ble_eq_true rfl) rfl (told5 dd hp hx)
  · exact fin _ _ "leave" hok (Nat.le_of_ble_eq_true rfl) rfl (told6 dd hp hx)
theorem rt_mid_s {E : Dn} {c x5 x6 x7 : Cell} {xs : List D} {f : Nat} (b : Bent home n ks wd ab d4 d5 d6 xs f) (hf : f < 7) (p : PL c) (h : ∀ (c' : Cell) (cs : Cs), PL c' → E.rt (.bool true) (c' :: cs)) :
    rt_mid E [c, .fro (dTup home n ks wd ab d4 d5 d6), .fro ptD, .own (.list xs), .fro (.int f), x5, x6, x7] := by
  have s : 1000 ≤ sizeLine := by decide
  obtain ⟨z, hz, ht⟩ := bent_told dd b hf
  have e1 : Ev (mUn oTupOf (mOwn 3)) [c, .fro (dTup home n ks wd ab d4 d5 d6), .fro ptD, .own (.list xs), .fro (.int f), x5, x6, x7] (.tuple .frz xs) := fun k q => q
  have hz2 : atI (ptL.map D.str) (f : Int) = some (.str z) := atI_nat (by rw [List.getElem?_map, hz]; rfl)
  have e2 : Ev (mOp oIx (mVar 2) (mVar 4)) [c, .fro (dTup home n ks wd ab d4 d5 d6), .fro ptD, .own (.list xs), .fro (.int f), x5, x6, x7] (.str z) := ev_op (a := ptD) (b := .int f) (ev_var rfl) (ev_var rfl) fun k q => by
    show match atI (ptL.map D.str) (f : Int) with | some d => k d | none => False
    rw [hz2]
    exact q
  unfold rt_mid
  refine seq0_s (told_no e1 e2 (ok_tup b.ok (by have := b.len; omega)) ht) ?_
  refine set_ev (other_ev dd) ?_
  have i0 : Ev (mOp oIx (mVar 1) (mC (.int 0))) [c, .fro (dTup home n ks wd ab d4 d5 d6), .fro ptD, .own (.list xs), .fro (.int f), x5, x6, .fro (.tuple .mad (otL home n ks wd ab d4 d5 d6))] (ttl home n) := ev_op (a := dTup home n ks wd ab d4 d5 d6) (b := .int 0) (ev_var rfl) ev_c fun k q => q
  have i1 : Ev (mOp oIx (mOp oIx (mVar 1) (mC (.int 0))) (mC (.int 0))) [c, .fro (dTup home n ks wd ab d4 d5 d6), .fro ptD, .own (.list xs), .fro (.int f), x5, x6, .fro (.tuple .mad (otL home n ks wd ab d4 d5 d6))] (.str home) := ev_op (a := ttl home n) (b := .int 0) i0 ev_c fun k q => q
  have i2 : Ev (mUn oLen (mOp oIx (mOp oIx (mVar 1) (mC (.int 0))) (mC (.int 0)))) [c, .fro (dTup home n ks wd ab d4 d5 d6), .fro ptD, .own (.list xs), .fro (.int f), x5, x6, .fro (.tuple .mad (otL home n ks wd ab d4 d5 d6))] (.int home.length) := ev_un i1 fun k q => ⟨by have := dd.nh; omega, q⟩
  have i3 : EvT (mTest (mOp oLt (mUn oLen (mOp oIx (mOp oIx (mVar 1) (mC (.int 0))) (mC (.int 0)))) (mC (.int 8)))) [c, .fro (dTup home n ks wd ab d4 d5 d6), .fro ptD, .own (.list xs), .fro (.int f), x5, x6, .fro (.tuple .mad (otL home n ks wd ab d4 d5 d6))] true := evt_test (ev_op (a := .int home.length) (b := .int 8) i2 ev_c fun k q => by
    have hl : decide ((home.length : Int) < 8) = true := decide_eq_true (by have := dd.nh; omega)
    show k (.bool (decide ((home.length : Int) < 8)))
    rw [hl]
    exact q)
  have i4 : EvT (mTest (mOp oNe (mCall F_law_told 0 (rCons (mVar 7) rNil)) (mC (.str "house")))) [c, .fro (dTup home n ks wd ab d4 d5 d6), .fro ptD, .own (.list xs), .fro (.int f), x5, x6, .fro (.tuple .mad (otL home n ks wd ab d4 d5 d6))] false := told_no (ev_var (d := .tuple .mad (otL home n ks wd ab d4 d5 d6)) rfl) ev_c (ok_tup (ok_ot dd) (Nat.le_of_ble_eq_true rfl)) (told_other dd)
  refine seq0_s (evt_and1 i3 i4) ?_
  exact rt_end_s dd p h
theorem right_s {c : Cell} {k : D → List Cell → Prop} (p : PL c) (h : ∀ c', PL c' → k (.bool true) [c']) : F_law_right [c, .fro (dTup home n ks wd ab d4 d5 d6)] k := by
  have s : 1000 ≤ sizeLine := by decide
  refine Fof.mk rfl ?_
  rw [right_eq]
  refine set_ev (d := ptD) (ev_lst (eva_cons ev_c (eva_cons ev_c (eva_cons ev_c (eva_cons ev_c (eva_cons ev_c (eva_cons ev_c (eva_cons ev_c eva_nil))))))) (Nat.le_of_ble_eq_true rfl)) ?_
  have eo : Ev (mUn oLstOf (mVar 1)) [c, .fro (dTup home n ks wd ab d4 d5 d6), .fro ptD, .un, .un, .un, .un, .un] (.list (itL home n ks wd ab d4 d5 d6)) := fun k q => q
  refine seq_setO (eo _ ?_)
  refine set_ev (d := .int 7) ev_c ?_
  refine seq_for (rng_st (a_st (op_st (ev_c _ (call_take (j := 0) (n := 2) rfl p (fun k' q => q) (by decide) (by decide) fun t c' t0 t1 p' => ?_)))))
  have ln : (intsD 0 (2 + t).toNat).length = (2 + t).toNat := by unfold intsD; rw [List.length_map, List.length_range]
  refine (show -(2 ^ 62) ≤ 2 + t ∧ 2 + t < 2 ^ 62 ∧ sForL (mgName 5) rt_body _ (intsD 0 (2 + t).toNat) [c', .fro (dTup home n ks wd ab d4 d5 d6), .fro ptD, .own (.list (itL home n ks wd ab d4 d5 d6)), .fro (.int (7 : Nat)), .un, .un, .un] from ⟨by omega, by omega, ?_⟩)
  refine rt_L dd _ _ _ _ _ 7 p' (bent0 dd) (.inr fun z => ?_) fun xs' f' c2 x5 x6 p2 hf b => ?_
  · rw [z] at ln
    simp at ln
    omega
  · exact rt_mid_s dd b hf p2 fun c3 cs p3 => h c3 p3
end
end K05d

namespace K05d
open PySem PySem.Spec PyProof.Rows L2 Br Dl K05
def lw_in : MS := (sIf (mNot (mTest (mCall F_law_right 1 (rOwn 2 (rCons (mVar 3) rNil))))) (sRet (mC (.bool false))) sNext)
def lw_five : MS := (sFor (mRng1 (aCons (mC (.int 5)) aNil)) (mgName 5) lw_in)
def lw_keys : MT := (mTest (mOp oNe (mUn oReprL (mLst (aCons (mCall F_key_of 0 (rCons (mVar 3) rNil)) (aCons (mCallK F_key_of [0] (aCons (mVar 3) aNil)) aNil)))) (mUn oReprL (mLst (aCons (mVar 4) (aCons (mVar 4) aNil))))))
def lw_due : MS := (sIf (mTest (mOp (oIn true) (mOp oIx (mVar 3) (mC (.int 1))) (mLst (aCons (mC (.str "say")) (aCons (mC (.str "strike")) aNil))))) (sSet 4 (mTup (aCons (mOp oIx (mVar 3) (mC (.int 1))) (aCons (mOp oIx (mVar 3) (mC (.int 3))) aNil)))) sNext)
def lw_rest : MS := (sSeq (sSet 3 (mCall F_law_drawn 1 (rOwn 2 rNil))) (sSeq (sSet 4 (mC .none)) (sSeq lw_due (sSeq (ret0 lw_keys) lw_five))))
def lw_turn : MS := (sSeq (sSetO 2 (mCallF F_law_pool (aCons (mVar 0) (aCons (mVar 1) aNil)))) lw_rest)
def lw_kinds : MT := (mTest (mOp oNe (mC k_KINDS) (mTup (aCons (mC (.str "begin")) (aCons (mC (.str "seat")) (aCons (mC (.str "ranks")) (aCons (mC (.str "door")) (aCons (mC (.str "say")) (aCons (mC (.str "strike")) (aCons (mC (.str "move")) aNil))))))))))
def lw_words : MT := (mTest (mOp oNe (mC k_WORDS) (mTup (aCons (mC (.str "bar")) (aCons (mC (.str "call")) (aCons (mC (.str "door")) (aCons (mC (.str "move")) (aCons (mC (.str "out")) (aCons (mC (.str "ranks")) (aCons (mC (.str "say")) (aCons (mC (.str "strike")) aNil)))))))))))
theorem law_eq : b_law = (sSeq (ret0 lw_kinds) (sSeq (ret0 lw_words) (sSeq (sFor (mRng1 (aCons (mOn oMax (aCons (mC (.int 1)) (aCons (mOn oMin (aCons (mUn oLen (mVar 0)) (aCons (mC (.int 16)) aNil))) aNil))) aNil)) (mgName 1) lw_turn) (sRet (mC (.bool true)))))) := rfl
theorem kinds_f {ρ : Cs} : EvT lw_kinds ρ false := evt_test (ev_op ev_c (ev_tup (eva_cons ev_c (eva_cons ev_c (eva_cons ev_c (eva_cons ev_c (eva_cons ev_c (eva_cons ev_c (eva_cons ev_c eva_nil))))))) (Nat.le_of_ble_eq_true rfl)) fun k q => by
  refine (show shp k_KINDS ∧ shp _ ∧ k (.bool (!eqd k_KINDS _)) from ⟨by unfold shp; decide +kernel, by unfold shp; decide +kernel, ?_⟩)
  have e : eqd k_KINDS (.tuple .mad [.str "begin", .str "seat", .str "ranks", .str "door", .str "say", .str "strike", .str "move"]) = true := by unfold eqd; decide +kernel
  rw [e]
  exact q)
theorem words_f {ρ : Cs} : EvT lw_words ρ false := evt_test (ev_op ev_c (ev_tup (eva_cons ev_c (eva_cons ev_c (eva_cons ev_c (eva_cons ev_c (eva_cons ev_c (eva_cons ev_c (eva_cons ev_c (eva_cons ev_c eva_nil)))))))) (Nat.le_of_ble_eq_true rfl)) fun k q => by
  refine (show shp k_WORDS ∧ shp _ ∧ k (.bool (!eqd k_WORDS _)) from ⟨by unfold shp; decide +kernel, by unfold shp; decide +kernel, ?_⟩)
  have e : eqd k_WORDS (.tuple .mad [.str "bar", .str "call", .str "door", .str "move", .str "out", .str "ranks", .str "say", .str "strike"]) = true := by unfold eqd; decide +kernel
  rw [e]
  exact q)
def keyD' (ks ab : Str) : D := if ks = "say" ∨ ks = "strike" then .none else .tuple .mad [.str ks, .str ab]
section
variable {home : Str} {n : Int} {ks wd ab : Str} {d4 d5 d6 : D} (dd : Deed home n ks wd ab d4 d5 d6)
include dd
theorem five_L {E : Dn} {s0 i1 x4 : Cell} : ∀ (ts : List D) (c x5 : Cell), PL c → (∀ (c' x5' : Cell), PL c' → E.nx [s0, i1, c', .fro (dTup home n ks wd ab d4 d5 d6), x4, x5']) →
    sForL (mgName 5) lw_in E ts [s0, i1, c, .fro (dTup home n ks wd ab d4 d5 d6), x4, x5]
  | [], c, x5, p, h => h c x5 p
  | t :: ts, c, x5, p, h => by
    obtain ⟨u1, u2, rfl, pu⟩ := id p
    refine (show (slotsOf [.inl 2, .inr (dTup home n ks wd ab d4 d5 d6)]).Nodup ∧ slotsOf ([.inr (dTup home n ks wd ab d4 d5 d6)] : List Ar) = [] ∧ F_law_right [.own (.list [.int u1, .int u2]), .fro (dTup home n ks wd ab d4 d5 d6)] _ from ⟨by simp [slotsOf], rfl, ?_⟩)
    refine right_s dd p fun c' p' => ?_
    exact five_L ts c' _ p' h
theorem wl_key : Wl 1 4000 (keyD' ks ab) := by
  unfold keyD'
  split
  · exact wl_none
  · have o1 := ok_ks dd
    have f : ∀ {z : Str}, K05.okS z = true → Wl 0 1000 (.str z) := fun {z} hz => wl_str (fun c hc => by have := okS_asc hz c hc; omega) (okS_len hz)
    exact (wl_tup (wls_cons (f o1) (wls_cons (f dd.oa) wls_nil))).mono (Nat.le_refl _) (by omega)
theorem keys_f {s0 i1 c x5 : Cell} : EvT lw_keys [s0, i1, c, .fro (dTup home n ks wd ab d4 d5 d6), .fro (keyD' ks ab), x5] false := by
  have k1 : Ev (mCall F_key_of 0 (rCons (mVar 3) rNil)) [s0, i1, c, .fro (dTup home n ks wd ab d4 d5 d6), .fro (keyD' ks ab), x5] (keyD' ks ab) := ev_call1 (ev_var (d := dTup home n ks wd ab d4 d5 d6) rfl) fun k q => key_of_s dd.kd q
  have k2 : Ev (mCallK F_key_of [0] (aCons (mVar 3) aNil)) [s0, i1, c, .fro (dTup home n ks wd ab d4 d5 d6), .fro (keyD' ks ab), x5] (keyD' ks ab) := fun k q => (show 1 = 1 ∧ F_key_of [.fro (dTup home n ks wd ab d4 d5 d6)] _ from ⟨rfl, key_of_s dd.kd q⟩)
  have l1 := ev_lst (eva_cons k1 (eva_cons k2 eva_nil)) (Nat.le_of_ble_eq_true rfl)
  have v : Ev (mVar 4) [s0, i1, c, .fro (dTup home n ks wd ab d4 d5 d6), .fro (keyD' ks ab), x5] (keyD' ks ab) := ev_var rfl
  have l2 := ev_lst (eva_cons v (eva_cons v eva_nil)) (Nat.le_of_ble_eq_true rfl)
  have ws : Wls 1 9000 [keyD' ks ab, keyD' ks ab] := (wls_cons (wl_key dd) (wls_cons (wl_key dd) wls_nil)).mono (Nat.le_refl _) (by omega)
  have r1 := ev_un (o := oReprL) l1 (d := .str (toPy (.list [keyD' ks ab, keyD' ks ab])).shown) fun k q => repr_wl ws (by omega) (by omega) q
  have r2 := ev_un (o := oReprL) l2 (d := .str (toPy (.list [keyD' ks ab, keyD' ks ab])).shown) fun k q => repr_wl ws (by omega) (by omega) q
  exact evt_test (ev_op r1 r2 fun k q => by
    show k (.bool (!decide ((toPy (.list [keyD' ks ab, keyD' ks ab])).shown = (toPy (.list [keyD' ks ab, keyD' ks ab])).shown)))
    rw [decide_eq_true rfl]
    exact q)
theorem rest_s {E : Dn} {s0 i1 c x4 x5 : Cell} (p : PL c) (h : ∀ cs : Cs, cs.length = 5 → E.nx (s0 :: cs)) :
    sSeq (sSet 4 (mC .none)) (sSeq lw_due (sSeq (ret0 lw_keys) lw_five)) E [s0, i1, c, .fro (dTup home n ks wd ab d4 d5 d6), x4, x5] := by
  refine set_ev ev_c ?_
  have x1 : Ev (mOp oIx (mVar 3) (mC (.int 1))) [s0, i1, c, .fro (dTup home n ks wd ab d4 d5 d6), .fro .none, x5] (.str ks) := ev_op (a := dTup home n ks wd ab d4 d5 d6) (b := .int 1) (ev_var rfl) ev_c fun k q => q
  have x3 : Ev (mOp oIx (mVar 3) (mC (.int 3))) [s0, i1, c, .fro (dTup home n ks wd ab d4 d5 d6), .fro .none, x5] (.str ab) := ev_op (a := dTup home n ks wd ab d4 d5 d6) (b := .int 3) (ev_var rfl) ev_c fun k q => q
  have em : (memD (.str ks) [.str "say", .str "strike"] != true) = !decide (ks = "say" ∨ ks = "strike") := by
    have all : ∀ z ∈ kindsL, (memD (.str z) [.str "say", .str "strike"] != true) = !decide (z = "say" ∨ z = "strike") := by unfold kindsL; decide +kernel
    exact all ks dd.kd
  have t : EvT (mTest (mOp (oIn true) (mOp oIx (mVar 3) (mC (.int 1))) (mLst (aCons (mC (.str "say")) (aCons (mC (.str "strike")) aNil))))) [s0, i1, c, .fro (dTup home n ks wd ab d4 d5 d6), .fro .none, x5] (!decide (ks = "say" ∨ ks = "strike")) := evt_test (ev_op x1 (ev_lst (eva_cons ev_c (eva_cons ev_c eva_nil)) (Nat.le_of_ble_eq_true rfl)) fun k q => by
    show k (.bool (memD (.str ks) [.str "say", .str "strike"] != true))
    rw [em]
    exact q)
  have fin : sSeq (ret0 lw_keys) lw_five E [s0, i1, c, .fro (dTup home n ks wd ab d4 d5 d6), .fro (keyD' ks ab), x5] := by
    refine seq0_s (keys_f dd) ?_
    refine (show -(2 ^ 62) ≤ (5 : Int) ∧ (5 : Int) < 2 ^ 62 ∧ sForL (mgName 5) lw_in E (intsD 0 5) [s0, i1, c, .fro (dTup home n ks wd ab d4 d5 d6), .fro (keyD' ks ab), x5] from ⟨by decide, by decide, ?_⟩)
    exact five_L dd _ _ _ p fun c' x5' p' => h _ rfl
  unfold lw_due
  by_cases q : ks = "say" ∨ ks = "strike"
  · rw [decide_eq_true q] at t
    refine if0_st t ?_
    unfold keyD' at fin
    rwa [if_pos q] at fin
  · rw [decide_eq_false q] at t
    refine if1_st t ?_
    have ex : Ev (mTup (aCons (mOp oIx (mVar 3) (mC (.int 1))) (aCons (mOp oIx (mVar 3) (mC (.int 3))) aNil))) [s0, i1, c, .fro (dTup home n ks wd ab d4 d5 d6), .fro .none, x5] (.tuple .mad [.str ks, .str ab]) := ev_tup (eva_cons x1 (eva_cons x3 eva_nil)) (Nat.le_of_ble_eq_true rfl)
    unfold keyD' at fin
    rw [if_neg q] at fin
    exact ex _ fin
end
end K05d

namespace K05d
open PySem PySem.Spec PyProof.Rows L2 Br Dl K05
theorem turn_s {ns : List Int} {i : Int} (i0 : 0 ≤ i) (i1 : i < 1000) {E : Dn} {c2 c3 c4 c5 : Cell} (h : ∀ cs : Cs, cs.length = 5 → E.nx (.fro (.scr ns) :: cs)) : lw_turn E [.fro (.scr ns), .fro (.int i), c2, c3, c4, c5] := by
  refine (show F_law_pool [.scr ns, .int i] (fun d => lw_rest E [.fro (.scr ns), .fro (.int i), .own d, c3, c4, c5]) from pool_s i0 i1 fun x y x0 y0 y1 => ?_)
  refine seq_set (show (slotsOf [.inl 2]).Nodup ∧ slotsOf ([] : List Ar) = [] ∧ F_law_drawn [.own (.list [.int x, .int y])] _ from ⟨by simp [slotsOf], rfl, ?_⟩)
  refine drawn_s ⟨x, y, rfl, x0, y0, y1⟩ fun home n ks wd ab d4 d5 d6 c' p' dd => ?_
  exact rest_s dd p' h
theorem turns_L {E : Dn} {ns : List Int} : ∀ (is : List Int) (cs : Cs), cs.length = 5 → (∀ i ∈ is, 0 ≤ i ∧ i < 1000) → (∀ cs : Cs, cs.length = 5 → E.nx (.fro (.scr ns) :: cs)) → sForL (mgName 1) lw_turn E (is.map .int) (.fro (.scr ns) :: cs)
  | [], cs, hm, _, hk => hk cs hm
  | i :: is, cs, hm, hi, hk => by
    match cs, hm with
    | [c1, c2, c3, c4, c5], _ =>
      refine (turn_s (hi i List.mem_cons_self).1 (hi i List.mem_cons_self).2 fun cs' hm' => ?_ : lw_turn _ [.fro (.scr ns), .fro (.int i), c2, c3, c4, c5])
      exact turns_L is cs' hm' (fun y hy => hi y (List.mem_cons_of_mem _ hy)) hk
theorem law_true {ns : List Int} {k : D → List Cell → Prop} (hk : k (.bool true) []) : F_law [.fro (.scr ns)] k := by
  refine Fof.mk rfl ?_
  rw [law_eq]
  refine seq0_s kinds_f (seq0_s words_f ?_)
  generalize hj : (if (if 16 < (ns.length : Int) then 16 else (ns.length : Int)) > 1 then (if 16 < (ns.length : Int) then 16 else (ns.length : Int)) else 1) = j
  have b : 1 ≤ j ∧ j ≤ 100 := by subst hj; split <;> split at * <;> omega
  have ei : intsD 0 j.toNat = ((List.range j.toNat).map fun i => ((0 : Int) + (i : Nat))).map D.int := by unfold intsD; rw [List.map_map]; rfl
  refine (show -(2 ^ 62) ≤ (if (if 16 < (ns.length : Int) then 16 else (ns.length : Int)) > 1 then (if 16 < (ns.length : Int) then 16 else (ns.length : Int)) else 1) ∧ (if (if 16 < (ns.length : Int) then 16 else (ns.length : Int)) > 1 then (if 16 < (ns.length : Int) then 16 else (ns.length : Int)) else 1) < 2 ^ 62 ∧ sForL (mgName 1) lw_turn _ (intsD 0 (if (if 16 < (ns.length : Int) then 16 else (ns.length : Int)) > 1 then (if 16 < (ns.length : Int) then 16 else (ns.length : Int)) else 1).toNat) [.fro (.scr ns), .un, .un, .un, .un, .un] from ?_)
  rw [hj, ei]
  refine ⟨by omega, by omega, turns_L _ _ rfl (fun i hi => ?_) fun cs hm => hk⟩
  obtain ⟨n, hn, rfl⟩ := List.mem_map.mp hi
  have := List.mem_range.mp hn
  omega
end K05d

namespace K05
open PySem PySem.Spec PyProof.Rows L2 Br
theorem txt_mk {K : PySem.W.Frag} {h : Heap} {mg : Str → Option Value} (X : K.In h) (G : h.Ns mainGlobals mg)
    {f0 : Addr} {od0 an0 : Option Addr} {sl0 : Array (Option Value)} {oc0 kV0 dc0 pm0 cd0 ct0 : Value}
    (a0 : PySem.W.nsIn K mainGlobals "is_whole" = some (some (.ref f0))) (l0 : K.lookup f0 = some ⟨oc0, od0, .func (PySem.W.fnOf "is_whole" "is_whole" (defArgs s_is_whole) (defBody s_is_whole) (defScope s_is_whole) .none kV0 dc0 pm0 an0 cd0 ct0), sl0⟩) (c0 : PySem.W.codeIn K cd0 "is_whole" = true) (k0 : PySem.W.keepIn K (.ref f0) = true)
    {f1 : Addr} {od1 an1 : Option Addr} {sl1 : Array (Option Value)} {oc1 kV1 dc1 pm1 cd1 ct1 : Value}
    (a1 : PySem.W.nsIn K mainGlobals "is_word" = some (some (.ref f1))) (l1 : K.lookup f1 = some ⟨oc1, od1, .func (PySem.W.fnOf "is_word" "is_word" (defArgs s_is_word) (defBody s_is_word) (defScope s_is_word) .none kV1 dc1 pm1 an1 cd1 ct1), sl1⟩) (c1 : PySem.W.codeIn K cd1 "is_word" = true) (k1 : PySem.W.keepIn K (.ref f1) = true)
    {f2 : Addr} {od2 an2 : Option Addr} {sl2 : Array (Option Value)} {oc2 kV2 dc2 pm2 cd2 ct2 : Value}
    (a2 : PySem.W.nsIn K mainGlobals "is_person" = some (some (.ref f2))) (l2 : K.lookup f2 = some ⟨oc2, od2, .func (PySem.W.fnOf "is_person" "is_person" (defArgs s_is_person) (defBody s_is_person) (defScope s_is_person) .none kV2 dc2 pm2 an2 cd2 ct2), sl2⟩) (c2 : PySem.W.codeIn K cd2 "is_person" = true) (k2 : PySem.W.keepIn K (.ref f2) = true)
    {f3 : Addr} {od3 an3 : Option Addr} {sl3 : Array (Option Value)} {oc3 kV3 dc3 pm3 cd3 ct3 : Value}
    (a3 : PySem.W.nsIn K mainGlobals "is_name" = some (some (.ref f3))) (l3 : K.lookup f3 = some ⟨oc3, od3, .func (PySem.W.fnOf "is_name" "is_name" (defArgs s_is_name) (defBody s_is_name) (defScope s_is_name) .none kV3 dc3 pm3 an3 cd3 ct3), sl3⟩) (c3 : PySem.W.codeIn K cd3 "is_name" = true) (k3 : PySem.W.keepIn K (.ref f3) = true)
    {f4 : Addr} {od4 an4 : Option Addr} {sl4 : Array (Option Value)} {oc4 kV4 dc4 pm4 cd4 ct4 : Value}
    (a4 : PySem.W.nsIn K mainGlobals "is_rank" = some (some (.ref f4))) (l4 : K.lookup f4 = some ⟨oc4, od4, .func (PySem.W.fnOf "is_rank" "is_rank" (defArgs s_is_rank) (defBody s_is_rank) (defScope s_is_rank) .none kV4 dc4 pm4 an4 cd4 ct4), sl4⟩) (c4 : PySem.W.codeIn K cd4 "is_rank" = true) (k4 : PySem.W.keepIn K (.ref f4) = true)
    {f5 : Addr} {od5 an5 : Option Addr} {sl5 : Array (Option Value)} {oc5 kV5 dc5 pm5 cd5 ct5 : Value}
    (a5 : PySem.W.nsIn K mainGlobals "house_of" = some (some (.ref f5))) (l5 : K.lookup f5 = some ⟨oc5, od5, .func (PySem.W.fnOf "house_of" "house_of" (defArgs s_house_of) (defBody s_house_of) (defScope s_house_of) .none kV5 dc5 pm5 an5 cd5 ct5), sl5⟩) (c5 : PySem.W.codeIn K cd5 "house_of" = true) (k5 : PySem.W.keepIn K (.ref f5) = true)
    {f6 : Addr} {od6 an6 : Option Addr} {sl6 : Array (Option Value)} {oc6 kV6 dc6 pm6 cd6 ct6 : Value}
    (a6 : PySem.W.nsIn K mainGlobals "is_one_of" = some (some (.ref f6))) (l6 : K.lookup f6 = some ⟨oc6, od6, .func (PySem.W.fnOf "is_one_of" "is_one_of" (defArgs s_is_one_of) (defBody s_is_one_of) (defScope s_is_one_of) .none kV6 dc6 pm6 an6 cd6 ct6), sl6⟩) (c6 : PySem.W.codeIn K cd6 "is_one_of" = true) (k6 : PySem.W.keepIn K (.ref f6) = true)
    {f7 : Addr} {od7 an7 : Option Addr} {sl7 : Array (Option Value)} {oc7 kV7 dc7 pm7 cd7 ct7 : Value}
    (a7 : PySem.W.nsIn K mainGlobals "is_pair" = some (some (.ref f7))) (l7 : K.lookup f7 = some ⟨oc7, od7, .func (PySem.W.fnOf "is_pair" "is_pair" (defArgs s_is_pair) (defBody s_is_pair) (defScope s_is_pair) .none kV7 dc7 pm7 an7 cd7 ct7), sl7⟩) (c7 : PySem.W.codeIn K cd7 "is_pair" = true) (k7 : PySem.W.keepIn K (.ref f7) = true)
    {f8 : Addr} {od8 an8 : Option Addr} {sl8 : Array (Option Value)} {oc8 kV8 dc8 pm8 cd8 ct8 : Value}
    (a8 : PySem.W.nsIn K mainGlobals "is_rising" = some (some (.ref f8))) (l8 : K.lookup f8 = some ⟨oc8, od8, .func (PySem.W.fnOf "is_rising" "is_rising" (defArgs s_is_rising) (defBody s_is_rising) (defScope s_is_rising) .none kV8 dc8 pm8 an8 cd8 ct8), sl8⟩) (c8 : PySem.W.codeIn K cd8 "is_rising" = true) (k8 : PySem.W.keepIn K (.ref f8) = true)
    {f9 : Addr} {od9 an9 : Option Addr} {sl9 : Array (Option Value)} {oc9 kV9 dc9 pm9 cd9 ct9 : Value}
    (a9 : PySem.W.nsIn K mainGlobals "is_rules" = some (some (.ref f9))) (l9 : K.lookup f9 = some ⟨oc9, od9, .func (PySem.W.fnOf "is_rules" "is_rules" (defArgs s_is_rules) (defBody s_is_rules) (defScope s_is_rules) .none kV9 dc9 pm9 an9 cd9 ct9), sl9⟩) (c9 : PySem.W.codeIn K cd9 "is_rules" = true) (k9 : PySem.W.keepIn K (.ref f9) = true)
    {f10 : Addr} {od10 an10 : Option Addr} {sl10 : Array (Option Value)} {oc10 kV10 dc10 pm10 cd10 ct10 : Value}
    (a10 : PySem.W.nsIn K mainGlobals "is_begin_body" = some (some (.ref f10))) (l10 : K.lookup f10 = some ⟨oc10, od10, .func (PySem.W.fnOf "is_begin_body" "is_begin_body" (defArgs s_is_begin_body) (defBody s_is_begin_body) (defScope s_is_begin_body) .none kV10 dc10 pm10 an10 cd10 ct10), sl10⟩) (c10 : PySem.W.codeIn K cd10 "is_begin_body" = true) (k10 : PySem.W.keepIn K (.ref f10) = true)
    {f11 : Addr} {od11 an11 : Option Addr} {sl11 : Array (Option Value)} {oc11 kV11 dc11 pm11 cd11 ct11 : Value}
    (a11 : PySem.W.nsIn K mainGlobals "is_seat_body" = some (some (.ref f11))) (l11 : K.lookup f11 = some ⟨oc11, od11, .func (PySem.W.fnOf "is_seat_body" "is_seat_body" (defArgs s_is_seat_body) (defBody s_is_seat_body) (defScope s_is_seat_body) .none kV11 dc11 pm11 an11 cd11 ct11), sl11⟩) (c11 : PySem.W.codeIn K cd11 "is_seat_body" = true) (k11 : PySem.W.keepIn K (.ref f11) = true)
    {f12 : Addr} {od12 an12 : Option Addr} {sl12 : Array (Option Value)} {oc12 kV12 dc12 pm12 cd12 ct12 : Value}
    (a12 : PySem.W.nsIn K mainGlobals "is_wanted_word" = some (some (.ref f12))) (l12 : K.lookup f12 = some ⟨oc12, od12, .func (PySem.W.fnOf "is_wanted_word" "is_wanted_word" (defArgs s_is_wanted_word) (defBody s_is_wanted_word) (defScope s_is_wanted_word) .none kV12 dc12 pm12 an12 cd12 ct12), sl12⟩) (c12 : PySem.W.codeIn K cd12 "is_wanted_word" = true) (k12 : PySem.W.keepIn K (.ref f12) = true)
    {f13 : Addr} {od13 an13 : Option Addr} {sl13 : Array (Option Value)} {oc13 kV13 dc13 pm13 cd13 ct13 : Value}
    (a13 : PySem.W.nsIn K mainGlobals "is_ranking" = some (some (.ref f13))) (l13 : K.lookup f13 = some ⟨oc13, od13, .func (PySem.W.fnOf "is_ranking" "is_ranking" (defArgs s_is_ranking) (defBody s_is_ranking) (defScope s_is_ranking) .none kV13 dc13 pm13 an13 cd13 ct13), sl13⟩) (c13 : PySem.W.codeIn K cd13 "is_ranking" = true) (k13 : PySem.W.keepIn K (.ref f13) = true)
    {f14 : Addr} {od14 an14 : Option Addr} {sl14 : Array (Option Value)} {oc14 kV14 dc14 pm14 cd14 ct14 : Value}
    (a14 : PySem.W.nsIn K mainGlobals "is_ranks_body" = some (some (.ref f14))) (l14 : K.lookup f14 = some ⟨oc14, od14, .func (PySem.W.fnOf "is_ranks_body" "is_ranks_body" (defArgs s_is_ranks_body) (defBody s_is_ranks_body) (defScope s_is_ranks_body) .none kV14 dc14 pm14 an14 cd14 ct14), sl14⟩) (c14 : PySem.W.codeIn K cd14 "is_ranks_body" = true) (k14 : PySem.W.keepIn K (.ref f14) = true)
    {f15 : Addr} {od15 an15 : Option Addr} {sl15 : Array (Option Value)} {oc15 kV15 dc15 pm15 cd15 ct15 : Value}
    (a15 : PySem.W.nsIn K mainGlobals "is_door_body" = some (some (.ref f15))) (l15 : K.lookup f15 = some ⟨oc15, od15, .func (PySem.W.fnOf "is_door_body" "is_door_body" (defArgs s_is_door_body) (defBody s_is_door_body) (defScope s_is_door_body) .none kV15 dc15 pm15 an15 cd15 ct15), sl15⟩) (c15 : PySem.W.codeIn K cd15 "is_door_body" = true) (k15 : PySem.W.keepIn K (.ref f15) = true)
    {f16 : Addr} {od16 an16 : Option Addr} {sl16 : Array (Option Value)} {oc16 kV16 dc16 pm16 cd16 ct16 : Value}
    (a16 : PySem.W.nsIn K mainGlobals "is_say_body" = some (some (.ref f16))) (l16 : K.lookup f16 = some ⟨oc16, od16, .func (PySem.W.fnOf "is_say_body" "is_say_body" (defArgs s_is_say_body) (defBody s_is_say_body) (defScope s_is_say_body) .none kV16 dc16 pm16 an16 cd16 ct16), sl16⟩) (c16 : PySem.W.codeIn K cd16 "is_say_body" = true) (k16 : PySem.W.keepIn K (.ref f16) = true)
    {f17 : Addr} {od17 an17 : Option Addr} {sl17 : Array (Option Value)} {oc17 kV17 dc17 pm17 cd17 ct17 : Value}
    (a17 : PySem.W.nsIn K mainGlobals "is_strike_body" = some (some (.ref f17))) (l17 : K.lookup f17 = some ⟨oc17, od17, .func (PySem.W.fnOf "is_strike_body" "is_strike_body" (defArgs s_is_strike_body) (defBody s_is_strike_body) (defScope s_is_strike_body) .none kV17 dc17 pm17 an17 cd17 ct17), sl17⟩) (c17 : PySem.W.codeIn K cd17 "is_strike_body" = true) (k17 : PySem.W.keepIn K (.ref f17) = true)
    {f18 : Addr} {od18 an18 : Option Addr} {sl18 : Array (Option Value)} {oc18 kV18 dc18 pm18 cd18 ct18 : Value}
    (a18 : PySem.W.nsIn K mainGlobals "is_body" = some (some (.ref f18))) (l18 : K.lookup f18 = some ⟨oc18, od18, .func (PySem.W.fnOf "is_body" "is_body" (defArgs s_is_body) (defBody s_is_body) (defScope s_is_body) .none kV18 dc18 pm18 an18 cd18 ct18), sl18⟩) (c18 : PySem.W.codeIn K cd18 "is_body" = true) (k18 : PySem.W.keepIn K (.ref f18) = true)
    {f19 : Addr} {od19 an19 : Option Addr} {sl19 : Array (Option Value)} {oc19 kV19 dc19 pm19 cd19 ct19 : Value}
    (a19 : PySem.W.nsIn K mainGlobals "is_about" = some (some (.ref f19))) (l19 : K.lookup f19 = some ⟨oc19, od19, .func (PySem.W.fnOf "is_about" "is_about" (defArgs s_is_about) (defBody s_is_about) (defScope s_is_about) .none kV19 dc19 pm19 an19 cd19 ct19), sl19⟩) (c19 : PySem.W.codeIn K cd19 "is_about" = true) (k19 : PySem.W.keepIn K (.ref f19) = true)
    {f20 : Addr} {od20 an20 : Option Addr} {sl20 : Array (Option Value)} {oc20 kV20 dc20 pm20 cd20 ct20 : Value}
    (a20 : PySem.W.nsIn K mainGlobals "is_names" = some (some (.ref f20))) (l20 : K.lookup f20 = some ⟨oc20, od20, .func (PySem.W.fnOf "is_names" "is_names" (defArgs s_is_names) (defBody s_is_names) (defScope s_is_names) .none kV20 dc20 pm20 an20 cd20 ct20), sl20⟩) (c20 : PySem.W.codeIn K cd20 "is_names" = true) (k20 : PySem.W.keepIn K (.ref f20) = true)
    {f21 : Addr} {od21 an21 : Option Addr} {sl21 : Array (Option Value)} {oc21 kV21 dc21 pm21 cd21 ct21 : Value}
    (a21 : PySem.W.nsIn K mainGlobals "wrong_part" = some (some (.ref f21))) (l21 : K.lookup f21 = some ⟨oc21, od21, .func (PySem.W.fnOf "wrong_part" "wrong_part" (defArgs s_wrong_part) (defBody s_wrong_part) (defScope s_wrong_part) .none kV21 dc21 pm21 an21 cd21 ct21), sl21⟩) (c21 : PySem.W.codeIn K cd21 "wrong_part" = true) (k21 : PySem.W.keepIn K (.ref f21) = true)
    {f22 : Addr} {od22 an22 : Option Addr} {sl22 : Array (Option Value)} {oc22 kV22 dc22 pm22 cd22 ct22 : Value}
    (a22 : PySem.W.nsIn K mainGlobals "look_at_deed" = some (some (.ref f22))) (l22 : K.lookup f22 = some ⟨oc22, od22, .func (PySem.W.fnOf "look_at_deed" "look_at_deed" (defArgs s_look_at_deed) (defBody s_look_at_deed) (defScope s_look_at_deed) .none kV22 dc22 pm22 an22 cd22 ct22), sl22⟩) (c22 : PySem.W.codeIn K cd22 "look_at_deed" = true) (k22 : PySem.W.keepIn K (.ref f22) = true)
    {f23 : Addr} {od23 an23 : Option Addr} {sl23 : Array (Option Value)} {oc23 kV23 dc23 pm23 cd23 ct23 : Value}
    (a23 : PySem.W.nsIn K mainGlobals "key_of" = some (some (.ref f23))) (l23 : K.lookup f23 = some ⟨oc23, od23, .func (PySem.W.fnOf "key_of" "key_of" (defArgs s_key_of) (defBody s_key_of) (defScope s_key_of) .none kV23 dc23 pm23 an23 cd23 ct23), sl23⟩) (c23 : PySem.W.codeIn K cd23 "key_of" = true) (k23 : PySem.W.keepIn K (.ref f23) = true)
    {f24 : Addr} {od24 an24 : Option Addr} {sl24 : Array (Option Value)} {oc24 kV24 dc24 pm24 cd24 ct24 : Value}
    (a24 : PySem.W.nsIn K mainGlobals "_law_pool" = some (some (.ref f24))) (l24 : K.lookup f24 = some ⟨oc24, od24, .func (PySem.W.fnOf "_law_pool" "_law_pool" (defArgs s_law_pool) (defBody s_law_pool) (defScope s_law_pool) .none kV24 dc24 pm24 an24 cd24 ct24), sl24⟩) (c24 : PySem.W.codeIn K cd24 "_law_pool" = true) (k24 : PySem.W.keepIn K (.ref f24) = true)
    {f25 : Addr} {od25 an25 : Option Addr} {sl25 : Array (Option Value)} {oc25 kV25 dc25 pm25 cd25 ct25 : Value}
    (a25 : PySem.W.nsIn K mainGlobals "_law_take" = some (some (.ref f25))) (l25 : K.lookup f25 = some ⟨oc25, od25, .func (PySem.W.fnOf "_law_take" "_law_take" (defArgs s_law_take) (defBody s_law_take) (defScope s_law_take) .none kV25 dc25 pm25 an25 cd25 ct25), sl25⟩) (c25 : PySem.W.codeIn K cd25 "_law_take" = true) (k25 : PySem.W.keepIn K (.ref f25) = true)
    {f26 : Addr} {od26 an26 : Option Addr} {sl26 : Array (Option Value)} {oc26 kV26 dc26 pm26 cd26 ct26 : Value}
    (a26 : PySem.W.nsIn K mainGlobals "_law_letters" = some (some (.ref f26))) (l26 : K.lookup f26 = some ⟨oc26, od26, .func (PySem.W.fnOf "_law_letters" "_law_letters" (defArgs s_law_letters) (defBody s_law_letters) (defScope s_law_letters) .none kV26 dc26 pm26 an26 cd26 ct26), sl26⟩) (c26 : PySem.W.codeIn K cd26 "_law_letters" = true) (k26 : PySem.W.keepIn K (.ref f26) = true)
    {f27 : Addr} {od27 an27 : Option Addr} {sl27 : Array (Option Value)} {oc27 kV27 dc27 pm27 cd27 ct27 : Value}
    (a27 : PySem.W.nsIn K mainGlobals "_law_folk" = some (some (.ref f27))) (l27 : K.lookup f27 = some ⟨oc27, od27, .func (PySem.W.fnOf "_law_folk" "_law_folk" (defArgs s_law_folk) (defBody s_law_folk) (defScope s_law_folk) .none kV27 dc27 pm27 an27 cd27 ct27), sl27⟩) (c27 : PySem.W.codeIn K cd27 "_law_folk" = true) (k27 : PySem.W.keepIn K (.ref f27) = true)
    {f28 : Addr} {od28 an28 : Option Addr} {sl28 : Array (Option Value)} {oc28 kV28 dc28 pm28 cd28 ct28 : Value}
    (a28 : PySem.W.nsIn K mainGlobals "_law_title" = some (some (.ref f28))) (l28 : K.lookup f28 = some ⟨oc28, od28, .func (PySem.W.fnOf "_law_title" "_law_title" (defArgs s_law_title) (defBody s_law_title) (defScope s_law_title) .none kV28 dc28 pm28 an28 cd28 ct28), sl28⟩) (c28 : PySem.W.codeIn K cd28 "_law_title" = true) (k28 : PySem.W.keepIn K (.ref f28) = true)
    {f29 : Addr} {od29 an29 : Option Addr} {sl29 : Array (Option Value)} {oc29 kV29 dc29 pm29 cd29 ct29 : Value}
    (a29 : PySem.W.nsIn K mainGlobals "_law_titles" = some (some (.ref f29))) (l29 : K.lookup f29 = some ⟨oc29, od29, .func (PySem.W.fnOf "_law_titles" "_law_titles" (defArgs s_law_titles) (defBody s_law_titles) (defScope s_law_titles) .none kV29 dc29 pm29 an29 cd29 ct29), sl29⟩) (c29 : PySem.W.codeIn K cd29 "_law_titles" = true) (k29 : PySem.W.keepIn K (.ref f29) = true)
    {f30 : Addr} {od30 an30 : Option Addr} {sl30 : Array (Option Value)} {oc30 kV30 dc30 pm30 cd30 ct30 : Value}
    (a30 : PySem.W.nsIn K mainGlobals "_law_rank_rows" = some (some (.ref f30))) (l30 : K.lookup f30 = some ⟨oc30, od30, .func (PySem.W.fnOf "_law_rank_rows" "_law_rank_rows" (defArgs s_law_rank_rows) (defBody s_law_rank_rows) (defScope s_law_rank_rows) .none kV30 dc30 pm30 an30 cd30 ct30), sl30⟩) (c30 : PySem.W.codeIn K cd30 "_law_rank_rows" = true) (k30 : PySem.W.keepIn K (.ref f30) = true)
    {f31 : Addr} {od31 an31 : Option Addr} {sl31 : Array (Option Value)} {oc31 kV31 dc31 pm31 cd31 ct31 : Value}
    (a31 : PySem.W.nsIn K mainGlobals "_law_content" = some (some (.ref f31))) (l31 : K.lookup f31 = some ⟨oc31, od31, .func (PySem.W.fnOf "_law_content" "_law_content" (defArgs s_law_content) (defBody s_law_content) (defScope s_law_content) .none kV31 dc31 pm31 an31 cd31 ct31), sl31⟩) (c31 : PySem.W.codeIn K cd31 "_law_content" = true) (k31 : PySem.W.keepIn K (.ref f31) = true)
    {f32 : Addr} {od32 an32 : Option Addr} {sl32 : Array (Option Value)} {oc32 kV32 dc32 pm32 cd32 ct32 : Value}
    (a32 : PySem.W.nsIn K mainGlobals "_law_drawn" = some (some (.ref f32))) (l32 : K.lookup f32 = some ⟨oc32, od32, .func (PySem.W.fnOf "_law_drawn" "_law_drawn" (defArgs s_law_drawn) (defBody s_law_drawn) (defScope s_law_drawn) .none kV32 dc32 pm32 an32 cd32 ct32), sl32⟩) (c32 : PySem.W.codeIn K cd32 "_law_drawn" = true) (k32 : PySem.W.keepIn K (.ref f32) = true)
    {f33 : Addr} {od33 an33 : Option Addr} {sl33 : Array (Option Value)} {oc33 kV33 dc33 pm33 cd33 ct33 : Value}
    (a33 : PySem.W.nsIn K mainGlobals "_law_told" = some (some (.ref f33))) (l33 : K.lookup f33 = some ⟨oc33, od33, .func (PySem.W.fnOf "_law_told" "_law_told" (defArgs s_law_told) (defBody s_law_told) (defScope s_law_told) .none kV33 dc33 pm33 an33 cd33 ct33), sl33⟩) (c33 : PySem.W.codeIn K cd33 "_law_told" = true) (k33 : PySem.W.keepIn K (.ref f33) = true)
    {f34 : Addr} {od34 an34 : Option Addr} {sl34 : Array (Option Value)} {oc34 kV34 dc34 pm34 cd34 ct34 : Value}
    (a34 : PySem.W.nsIn K mainGlobals "_law_bad" = some (some (.ref f34))) (l34 : K.lookup f34 = some ⟨oc34, od34, .func (PySem.W.fnOf "_law_bad" "_law_bad" (defArgs s_law_bad) (defBody s_law_bad) (defScope s_law_bad) .none kV34 dc34 pm34 an34 cd34 ct34), sl34⟩) (c34 : PySem.W.codeIn K cd34 "_law_bad" = true) (k34 : PySem.W.keepIn K (.ref f34) = true)
    {f35 : Addr} {od35 an35 : Option Addr} {sl35 : Array (Option Value)} {oc35 kV35 dc35 pm35 cd35 ct35 : Value}
    (a35 : PySem.W.nsIn K mainGlobals "_law_right" = some (some (.ref f35))) (l35 : K.lookup f35 = some ⟨oc35, od35, .func (PySem.W.fnOf "_law_right" "_law_right" (defArgs s_law_right) (defBody s_law_right) (defScope s_law_right) .none kV35 dc35 pm35 an35 cd35 ct35), sl35⟩) (c35 : PySem.W.codeIn K cd35 "_law_right" = true) (k35 : PySem.W.keepIn K (.ref f35) = true)
    {f36 : Addr} {od36 an36 : Option Addr} {sl36 : Array (Option Value)} {oc36 kV36 dc36 pm36 cd36 ct36 : Value}
    (a36 : PySem.W.nsIn K mainGlobals "law" = some (some (.ref f36))) (l36 : K.lookup f36 = some ⟨oc36, od36, .func (PySem.W.fnOf "law" "law" (defArgs s_law) (defBody s_law) (defScope s_law) .none kV36 dc36 pm36 an36 cd36 ct36), sl36⟩) (c36 : PySem.W.codeIn K cd36 "law" = true) (k36 : PySem.W.keepIn K (.ref f36) = true)
    {t_LONGEST_WORD : Tok} (g_LONGEST_WORD : PySem.W.nsIn K mainGlobals "LONGEST_WORD" = some (some (.int 8 t_LONGEST_WORD)))
    {t_GREATEST_NUMBER : Tok} (g_GREATEST_NUMBER : PySem.W.nsIn K mainGlobals "GREATEST_NUMBER" = some (some (.int 99999 t_GREATEST_NUMBER)))
    {t_GREATEST_RANK : Tok} (g_GREATEST_RANK : PySem.W.nsIn K mainGlobals "GREATEST_RANK" = some (some (.int 100 t_GREATEST_RANK)))
    {t_KIND : Tok} (g_KIND : PySem.W.nsIn K mainGlobals "KIND" = some (some (.int 1 t_KIND)))
    {t_ABOUT : Tok} (g_ABOUT : PySem.W.nsIn K mainGlobals "ABOUT" = some (some (.int 3 t_ABOUT)))
    {t_MOST_PEOPLE : Tok} (g_MOST_PEOPLE : PySem.W.nsIn K mainGlobals "MOST_PEOPLE" = some (some (.int 20 t_MOST_PEOPLE)))
    {t_MOST_SIGNS : Tok} (g_MOST_SIGNS : PySem.W.nsIn K mainGlobals "MOST_SIGNS" = some (some (.int 80 t_MOST_SIGNS)))
    {t_MOST_NAMES : Tok} (g_MOST_NAMES : PySem.W.nsIn K mainGlobals "MOST_NAMES" = some (some (.int 6 t_MOST_NAMES)))
    (z_ValueError : PySem.W.nsIn K mainGlobals "ValueError" = some none)
    (z_all : PySem.W.nsIn K mainGlobals "all" = some none)
    (z_bool : PySem.W.nsIn K mainGlobals "bool" = some none)
    (z_int : PySem.W.nsIn K mainGlobals "int" = some none)
    (z_isinstance : PySem.W.nsIn K mainGlobals "isinstance" = some none)
    (z_len : PySem.W.nsIn K mainGlobals "len" = some none)
    (z_list : PySem.W.nsIn K mainGlobals "list" = some none)
    (z_max : PySem.W.nsIn K mainGlobals "max" = some none)
    (z_min : PySem.W.nsIn K mainGlobals "min" = some none)
    (z_range : PySem.W.nsIn K mainGlobals "range" = some none)
    (z_repr : PySem.W.nsIn K mainGlobals "repr" = some none)
    (z_sorted : PySem.W.nsIn K mainGlobals "sorted" = some none)
    (z_str : PySem.W.nsIn K mainGlobals "str" = some none)
    (z_tuple : PySem.W.nsIn K mainGlobals "tuple" = some none)
    (z_zip : PySem.W.nsIn K mainGlobals "zip" = some none)
    : Nonempty (PSigma fun T : Txt K mg => T.d_law = PySem.W.fnOf "law" "law" (defArgs s_law) (defBody s_law) (defScope s_law) .none kV36 dc36 pm36 an36 cd36 ct36) := by
  have F0 := fun_mk (st := s_is_whole) l0 c0 k0
  have b0 := F0.binds (ps := ["thing"]) fun _ _ _ _ _ _ us hl => match us, hl with | [_], _ => rfl
  have F1 := fun_mk (st := s_is_word) l1 c1 k1
  have b1 := F1.binds (ps := ["thing"]) fun _ _ _ _ _ _ us hl => match us, hl with | [_], _ => rfl
  have F2 := fun_mk (st := s_is_person) l2 c2 k2
  have b2 := F2.binds (ps := ["thing"]) fun _ _ _ _ _ _ us hl => match us, hl with | [_], _ => rfl
  have F3 := fun_mk (st := s_is_name) l3 c3 k3
  have b3 := F3.binds (ps := ["thing"]) fun _ _ _ _ _ _ us hl => match us, hl with | [_], _ => rfl
  have F4 := fun_mk (st := s_is_rank) l4 c4 k4
  have b4 := F4.binds (ps := ["thing"]) fun _ _ _ _ _ _ us hl => match us, hl with | [_], _ => rfl
  have F5 := fun_mk (st := s_house_of) l5 c5 k5
  have b5 := F5.binds (ps := ["person"]) fun _ _ _ _ _ _ us hl => match us, hl with | [_], _ => rfl
  have F6 := fun_mk (st := s_is_one_of) l6 c6 k6
  have b6 := F6.binds (ps := ["thing", "texts"]) fun _ _ _ _ _ _ us hl => match us, hl with | [_, _], _ => rfl
  have F7 := fun_mk (st := s_is_pair) l7 c7 k7
  have b7 := F7.binds (ps := ["thing"]) fun _ _ _ _ _ _ us hl => match us, hl with | [_], _ => rfl
  have F8 := fun_mk (st := s_is_rising) l8 c8 k8
  have b8 := F8.binds (ps := ["things"]) fun _ _ _ _ _ _ us hl => match us, hl with | [_], _ => rfl
  have F9 := fun_mk (st := s_is_rules) l9 c9 k9
  have b9 := F9.binds (ps := ["thing"]) fun _ _ _ _ _ _ us hl => match us, hl with | [_], _ => rfl
  have F10 := fun_mk (st := s_is_begin_body) l10 c10 k10
  have b10 := F10.binds (ps := ["body"]) fun _ _ _ _ _ _ us hl => match us, hl with | [_], _ => rfl
  have F11 := fun_mk (st := s_is_seat_body) l11 c11 k11
  have b11 := F11.binds (ps := ["body"]) fun _ _ _ _ _ _ us hl => match us, hl with | [_], _ => rfl
  have F12 := fun_mk (st := s_is_wanted_word) l12 c12 k12
  have b12 := F12.binds (ps := ["thing"]) fun _ _ _ _ _ _ us hl => match us, hl with | [_], _ => rfl
  have F13 := fun_mk (st := s_is_ranking) l13 c13 k13
  have b13 := F13.binds (ps := ["rows", "is_ranked"]) fun _ _ _ _ _ _ us hl => match us, hl with | [_, _], _ => rfl
  have F14 := fun_mk (st := s_is_ranks_body) l14 c14 k14
  have b14 := F14.binds (ps := ["body"]) fun _ _ _ _ _ _ us hl => match us, hl with | [_], _ => rfl
  have F15 := fun_mk (st := s_is_door_body) l15 c15 k15
  have b15 := F15.binds (ps := ["body"]) fun _ _ _ _ _ _ us hl => match us, hl with | [_], _ => rfl
  have F16 := fun_mk (st := s_is_say_body) l16 c16 k16
  have b16 := F16.binds (ps := ["body"]) fun _ _ _ _ _ _ us hl => match us, hl with | [_], _ => rfl
  have F17 := fun_mk (st := s_is_strike_body) l17 c17 k17
  have b17 := F17.binds (ps := ["body"]) fun _ _ _ _ _ _ us hl => match us, hl with | [_], _ => rfl
  have F18 := fun_mk (st := s_is_body) l18 c18 k18
  have b18 := F18.binds (ps := ["kind", "body"]) fun _ _ _ _ _ _ us hl => match us, hl with | [_, _], _ => rfl
  have F19 := fun_mk (st := s_is_about) l19 c19 k19
  have b19 := F19.binds (ps := ["kind", "about"]) fun _ _ _ _ _ _ us hl => match us, hl with | [_, _], _ => rfl
  have F20 := fun_mk (st := s_is_names) l20 c20 k20
  have b20 := F20.binds (ps := ["kind", "own", "names"]) fun _ _ _ _ _ _ us hl => match us, hl with | [_, _, _], _ => rfl
  have F21 := fun_mk (st := s_wrong_part) l21 c21 k21
  have b21 := F21.binds (ps := ["deed"]) fun _ _ _ _ _ _ us hl => match us, hl with | [_], _ => rfl
  have F22 := fun_mk (st := s_look_at_deed) l22 c22 k22
  have b22 := F22.binds (ps := ["thing"]) fun _ _ _ _ _ _ us hl => match us, hl with | [_], _ => rfl
  have F23 := fun_mk (st := s_key_of) l23 c23 k23
  have b23 := F23.binds (ps := ["deed"]) fun _ _ _ _ _ _ us hl => match us, hl with | [_], _ => rfl
  have F24 := fun_mk (st := s_law_pool) l24 c24 k24
  have b24 := F24.binds (ps := ["_law_script", "_law_k"]) fun _ _ _ _ _ _ us hl => match us, hl with | [_, _], _ => rfl
  have F25 := fun_mk (st := s_law_take) l25 c25 k25
  have b25 := F25.binds (ps := ["_law_pool_here", "_law_many"]) fun _ _ _ _ _ _ us hl => match us, hl with | [_, _], _ => rfl
  have F26 := fun_mk (st := s_law_letters) l26 c26 k26
  have b26 := F26.binds (ps := ["_law_pool_here", "_law_many"]) fun _ _ _ _ _ _ us hl => match us, hl with | [_, _], _ => rfl
  have F27 := fun_mk (st := s_law_folk) l27 c27 k27
  have b27 := F27.binds (ps := ["_law_pool_here", "_law_many"]) fun _ _ _ _ _ _ us hl => match us, hl with | [_, _], _ => rfl
  have F28 := fun_mk (st := s_law_title) l28 c28 k28
  have b28 := F28.binds (ps := ["_law_pool_here", "_law_home"]) fun _ _ _ _ _ _ us hl => match us, hl with | [_, _], _ => rfl
  have F29 := fun_mk (st := s_law_titles) l29 c29 k29
  have b29 := F29.binds (ps := ["_law_pool_here", "_law_own", "_law_most"]) fun _ _ _ _ _ _ us hl => match us, hl with | [_, _, _], _ => rfl
  have F30 := fun_mk (st := s_law_rank_rows) l30 c30 k30
  have b30 := F30.binds (ps := ["_law_pool_here", "_law_folk_here"]) fun _ _ _ _ _ _ us hl => match us, hl with | [_, _], _ => rfl
  have F31 := fun_mk (st := s_law_content) l31 c31 k31
  have b31 := F31.binds (ps := ["_law_pool_here", "_law_sort", "_law_folk_here", "_law_title_here"]) fun _ _ _ _ _ _ us hl => match us, hl with | [_, _, _, _], _ => rfl
  have F32 := fun_mk (st := s_law_drawn) l32 c32 k32
  have b32 := F32.binds (ps := ["_law_pool_here"]) fun _ _ _ _ _ _ us hl => match us, hl with | [_], _ => rfl
  have F33 := fun_mk (st := s_law_told) l33 c33 k33
  have b33 := F33.binds (ps := ["_law_item"]) fun _ _ _ _ _ _ us hl => match us, hl with | [_], _ => rfl
  have F34 := fun_mk (st := s_law_bad) l34 c34 k34
  have b34 := F34.binds (ps := ["_law_pool_here", "_law_item", "_law_at"]) fun _ _ _ _ _ _ us hl => match us, hl with | [_, _, _], _ => rfl
  have F35 := fun_mk (st := s_law_right) l35 c35 k35
  have b35 := F35.binds (ps := ["_law_pool_here", "_law_item"]) fun _ _ _ _ _ _ us hl => match us, hl with | [_, _], _ => rfl
  have F36 := fun_mk (st := s_law) l36 c36 k36
  have b36 := F36.binds (ps := ["_law_script"]) fun _ _ _ _ _ _ us hl => match us, hl with | [_], _ => rfl
  exact ⟨⟨{
    f_is_whole := f0, d_is_whole := _, F_is_whole := F0, b_is_whole := b0, kw_is_whole := fun s ws hl => match ws, hl with | [_], _ => .of_eq rfl, m_is_whole := PySem.W.mg_of X G a0,
    f_is_word := f1, d_is_word := _, F_is_word := F1, b_is_word := b1, kw_is_word := fun s ws hl => match ws, hl with | [_], _ => .of_eq rfl, m_is_word := PySem.W.mg_of X G a1,
    f_is_person := f2, d_is_person := _, F_is_person := F2, b_is_person := b2, kw_is_person := fun s ws hl => match ws, hl with | [_], _ => .of_eq rfl, m_is_person := PySem.W.mg_of X G a2,
    f_is_name := f3, d_is_name := _, F_is_name := F3, b_is_name := b3, kw_is_name := fun s ws hl => match ws, hl with | [_], _ => .of_eq rfl, m_is_name := PySem.W.mg_of X G a3,
    f_is_rank := f4, d_is_rank := _, F_is_rank := F4, b_is_rank := b4, kw_is_rank := fun s ws hl => match ws, hl with | [_], _ => .of_eq rfl, m_is_rank := PySem.W.mg_of X G a4,
    f_house_of := f5, d_house_of := _, F_house_of := F5, b_house_of := b5, kw_house_of := fun s ws hl => match ws, hl with | [_], _ => .of_eq rfl, m_house_of := PySem.W.mg_of X G a5,
    f_is_one_of := f6, d_is_one_of := _, F_is_one_of := F6, b_is_one_of := b6, kw_is_one_of := fun s ws hl => match ws, hl with | [_, _], _ => .of_eq rfl, m_is_one_of := PySem.W.mg_of X G a6,
    f_is_pair := f7, d_is_pair := _, F_is_pair := F7, b_is_pair := b7, kw_is_pair := fun s ws hl => match ws, hl with | [_], _ => .of_eq rfl, m_is_pair := PySem.W.mg_of X G a7,
    f_is_rising := f8, d_is_rising := _, F_is_rising := F8, b_is_rising := b8, kw_is_rising := fun s ws hl => match ws, hl with | [_], _ => .of_eq rfl, m_is_rising := PySem.W.mg_of X G a8,
    f_is_rules := f9, d_is_rules := _, F_is_rules := F9, b_is_rules := b9, kw_is_rules := fun s ws hl => match ws, hl with | [_], _ => .of_eq rfl, m_is_rules := PySem.W.mg_of X G a9,
    f_is_begin_body := f10, d_is_begin_body := _, F_is_begin_body := F10, b_is_begin_body := b10, kw_is_begin_body := fun s ws hl => match ws, hl with | [_], _ => .of_eq rfl, m_is_begin_body := PySem.W.mg_of X G a10,
    f_is_seat_body := f11, d_is_seat_body := _, F_is_seat_body := F11, b_is_seat_body := b11, kw_is_seat_body := fun s ws hl => match ws, hl with | [_], _ => .of_eq rfl, m_is_seat_body := PySem.W.mg_of X G a11,
    f_is_wanted_word := f12, d_is_wanted_word := _, F_is_wanted_word := F12, b_is_wanted_word := b12, kw_is_wanted_word := fun s ws hl => match ws, hl with | [_], _ => .of_eq rfl, m_is_wanted_word := PySem.W.mg_of X G a12,
    f_is_ranking := f13, d_is_ranking := _, F_is_ranking := F13, b_is_ranking := b13, kw_is_ranking := fun s ws hl => match ws, hl with | [_, _], _ => .of_eq rfl, m_is_ranking := PySem.W.mg_of X G a13,
    f_is_ranks_body := f14, d_is_ranks_body := _, F_is_ranks_body := F14, b_is_ranks_body := b14, kw_is_ranks_body := fun s ws hl => match ws, hl with | [_], _ => .of_eq rfl, m_is_ranks_body := PySem.W.mg_of X G a14,
    f_is_door_body := f15, d_is_door_body := _, F_is_door_body := F15, b_is_door_body := b15, kw_is_door_body := fun s ws hl => match ws, hl with | [_], _ => .of_eq rfl, m_is_door_body := PySem.W.mg_of X G a15,
    f_is_say_body := f16, d_is_say_body := _, F_is_say_body := F16, b_is_say_body := b16, kw_is_say_body := fun s ws hl => match ws, hl with | [_], _ => .of_eq rfl, m_is_say_body := PySem.W.mg_of X G a16,
    f_is_strike_body := f17, d_is_strike_body := _, F_is_strike_body := F17, b_is_strike_body := b17, kw_is_strike_body := fun s ws hl => match ws, hl with | [_], _ => .of_eq rfl, m_is_strike_body := PySem.W.mg_of X G a17,
    f_is_body := f18, d_is_body := _, F_is_body := F18, b_is_body := b18, kw_is_body := fun s ws hl => match ws, hl with | [_, _], _ => .of_eq rfl, m_is_body := PySem.W.mg_of X G a18,
    f_is_about := f19, d_is_about := _, F_is_about := F19, b_is_about := b19, kw_is_about := fun s ws hl => match ws, hl with | [_, _], _ => .of_eq rfl, m_is_about := PySem.W.mg_of X G a19,
    f_is_names := f20, d_is_names := _, F_is_names := F20, b_is_names := b20, kw_is_names := fun s ws hl => match ws, hl with | [_, _, _], _ => .of_eq rfl, m_is_names := PySem.W.mg_of X G a20,
    f_wrong_part := f21, d_wrong_part := _, F_wrong_part := F21, b_wrong_part := b21, kw_wrong_part := fun s ws hl => match ws, hl with | [_], _ => .of_eq rfl, m_wrong_part := PySem.W.mg_of X G a21,
    f_look_at_deed := f22, d_look_at_deed := _, F_look_at_deed := F22, b_look_at_deed := b22, kw_look_at_deed := fun s ws hl => match ws, hl with | [_], _ => .of_eq rfl, m_look_at_deed := PySem.W.mg_of X G a22,
    f_key_of := f23, d_key_of := _, F_key_of := F23, b_key_of := b23, kw_key_of := fun s ws hl => match ws, hl with | [_], _ => .of_eq rfl, m_key_of := PySem.W.mg_of X G a23,
    f_law_pool := f24, d_law_pool := _, F_law_pool := F24, b_law_pool := b24, kw_law_pool := fun s ws hl => match ws, hl with | [_, _], _ => .of_eq rfl, m_law_pool := PySem.W.mg_of X G a24,
    f_law_take := f25, d_law_take := _, F_law_take := F25, b_law_take := b25, kw_law_take := fun s ws hl => match ws, hl with | [_, _], _ => .of_eq rfl, m_law_take := PySem.W.mg_of X G a25,
    f_law_letters := f26, d_law_letters := _, F_law_letters := F26, b_law_letters := b26, kw_law_letters := fun s ws hl => match ws, hl with | [_, _], _ => .of_eq rfl, m_law_letters := PySem.W.mg_of X G a26,
    f_law_folk := f27, d_law_folk := _, F_law_folk := F27, b_law_folk := b27, kw_law_folk := fun s ws hl => match ws, hl with | [_, _], _ => .of_eq rfl, m_law_folk := PySem.W.mg_of X G a27,
    f_law_title := f28, d_law_title := _, F_law_title := F28, b_law_title := b28, kw_law_title := fun s ws hl => match ws, hl with | [_, _], _ => .of_eq rfl, m_law_title := PySem.W.mg_of X G a28,
    f_law_titles := f29, d_law_titles := _, F_law_titles := F29, b_law_titles := b29, kw_law_titles := fun s ws hl => match ws, hl with | [_, _, _], _ => .of_eq rfl, m_law_titles := PySem.W.mg_of X G a29,
    f_law_rank_rows := f30, d_law_rank_rows := _, F_law_rank_rows := F30, b_law_rank_rows := b30, kw_law_rank_rows := fun s ws hl => match ws, hl with | [_, _], _ => .of_eq rfl, m_law_rank_rows := PySem.W.mg_of X G a30,
    f_law_content := f31, d_law_content := _, F_law_content := F31, b_law_content := b31, kw_law_content := fun s ws hl => match ws, hl with | [_, _, _, _], _ => .of_eq rfl, m_law_content := PySem.W.mg_of X G a31,
    f_law_drawn := f32, d_law_drawn := _, F_law_drawn := F32, b_law_drawn := b32, kw_law_drawn := fun s ws hl => match ws, hl with | [_], _ => .of_eq rfl, m_law_drawn := PySem.W.mg_of X G a32,
    f_law_told := f33, d_law_told := _, F_law_told := F33, b_law_told := b33, kw_law_told := fun s ws hl => match ws, hl with | [_], _ => .of_eq rfl, m_law_told := PySem.W.mg_of X G a33,
    f_law_bad := f34, d_law_bad := _, F_law_bad := F34, b_law_bad := b34, kw_law_bad := fun s ws hl => match ws, hl with | [_, _, _], _ => .of_eq rfl, m_law_bad := PySem.W.mg_of X G a34,
    f_law_right := f35, d_law_right := _, F_law_right := F35, b_law_right := b35, kw_law_right := fun s ws hl => match ws, hl with | [_, _], _ => .of_eq rfl, m_law_right := PySem.W.mg_of X G a35,
    f_law := f36, d_law := _, F_law := F36, b_law := b36, kw_law := fun s ws hl => match ws, hl with | [_], _ => .of_eq rfl, m_law := PySem.W.mg_of X G a36,
    t_LONGEST_WORD := _, c_LONGEST_WORD := PySem.W.mg_of X G g_LONGEST_WORD,
    t_GREATEST_NUMBER := _, c_GREATEST_NUMBER := PySem.W.mg_of X G g_GREATEST_NUMBER,
    t_GREATEST_RANK := _, c_GREATEST_RANK := PySem.W.mg_of X G g_GREATEST_RANK,
    t_KIND := _, c_KIND := PySem.W.mg_of X G g_KIND,
    t_ABOUT := _, c_ABOUT := PySem.W.mg_of X G g_ABOUT,
    t_MOST_PEOPLE := _, c_MOST_PEOPLE := PySem.W.mg_of X G g_MOST_PEOPLE,
    t_MOST_SIGNS := _, c_MOST_SIGNS := PySem.W.mg_of X G g_MOST_SIGNS,
    t_MOST_NAMES := _, c_MOST_NAMES := PySem.W.mg_of X G g_MOST_NAMES,
    z_ValueError := PySem.W.mg_none_of X G z_ValueError,
    z_all := PySem.W.mg_none_of X G z_all,
    z_bool := PySem.W.mg_none_of X G z_bool,
    z_int := PySem.W.mg_none_of X G z_int,
    z_isinstance := PySem.W.mg_none_of X G z_isinstance,
    z_len := PySem.W.mg_none_of X G z_len,
    z_list := PySem.W.mg_none_of X G z_list,
    z_max := PySem.W.mg_none_of X G z_max,
    z_min := PySem.W.mg_none_of X G z_min,
    z_range := PySem.W.mg_none_of X G z_range,
    z_repr := PySem.W.mg_none_of X G z_repr,
    z_sorted := PySem.W.mg_none_of X G z_sorted,
    z_str := PySem.W.mg_none_of X G z_str,
    z_tuple := PySem.W.mg_none_of X G z_tuple,
    z_zip := PySem.W.mg_none_of X G z_zip
  }, rfl⟩⟩
end K05
namespace K05d
open PySem PySem.Spec PyProof.Rows L2 Br Dl K05
theorem txty_mk {K : PySem.W.Frag} {h : Heap} {mg : Str → Option Value} {w : World} (X : K.In h) (G : h.Ns mainGlobals mg) (T : Txt K mg) (Y : K05.TxtX K mg w T)
    {a_KEYED : Addr} {od_KEYED : Option Addr} {sl_KEYED : Array (Option Value)} {its_KEYED : Array Value} {n_KEYED : Nat} (g_KEYED : PySem.W.nsIn K mainGlobals "KEYED" = some (some (.ref a_KEYED))) (l_KEYED : K.lookup a_KEYED = some ⟨.type "tuple", od_KEYED, .seq its_KEYED n_KEYED, sl_KEYED⟩) (v_KEYED : Vals [.str "begin", .str "seat", .str "ranks", .str "door", .str "move"] its_KEYED.toList) (s_KEYED : its_KEYED.size ≤ sizeLine) : Nonempty (TxtX K mg w T) :=
  ⟨{ X := Y,
     a_KINDS := Y.a_KINDS, m_KINDS := Y.m_KINDS, r_KINDS := fun G => .tupC (Y.q_KINDS G) (.cons (.str _) (.cons (.str _) (.cons (.str _) (.cons (.str _) (.cons (.str _) (.cons (.str _) (.cons (.str _) .nil))))))),
     a_WORDS := Y.a_WORDS, m_WORDS := Y.m_WORDS, r_WORDS := fun G => .tupC (Y.q_WORDS G) (.cons (.str _) (.cons (.str _) (.cons (.str _) (.cons (.str _) (.cons (.str _) (.cons (.str _) (.cons (.str _) (.cons (.str _) .nil)))))))),
     a_KEYED := a_KEYED, m_KEYED := PySem.W.mg_of X G g_KEYED, r_KEYED := fun G => .tupC (.inr ⟨_, _, _, l_KEYED, rfl, rfl, s_KEYED, v_KEYED⟩) (.cons (.str _) (.cons (.str _) (.cons (.str _) (.cons (.str _) (.cons (.str _) .nil))))),
     kx_0 := fun s ws hl => match ws, hl with | [v], h => T.kw_key_of s [v] h }⟩
theorem all_mk {l : PySem.W.OpenLaw} {w : World} {K : PySem.W.Frag} {mg : Str → Option Value} {fa : Addr} (hfa : mg "law" = some (.ref fa)) (T : Txt K mg) (Y : TxtX K mg w T) (hb : ∀ (s : Shared) (v : Value), BindsTo s T.d_law ⟨[v], []⟩ [("_law_script", v)]) :
    ∃ fd : FuncData, (∀ (s : Shared) (v : Value), BindsTo s fd ⟨[v], []⟩ [("_law_script", v)]) ∧ ∀ base : Heap, K.In base → base.Ns mainGlobals mg → FnG l.prog w K mg base CX0 11 fa fd ["_law_script"] (spD K 1 0 F_law) := by
  have e := hfa.symm.trans T.m_law
  cases e
  exact ⟨T.d_law, hb, fun base _ _ => (d_law T Y).ok⟩
theorem sp_end {K : PySem.W.Frag} {H : Hp} {a : Addr} {xs : List Int} (hl : xs.length ≤ 63) (hS : SqL K H a (xs.map V.int)) : spD K 1 0 F_law [.ref a] H (fun v _ => v = .bl true) fun _ _ _ => False :=
  Dl.law_end hS (law_true fun v G' r => dl_true r) Fof.mo
end K05d
open PySem PySem.W PyProof.Rows
set_option maxHeartbeats 0 in
theorem PySem.Challenge.cw_branchedhall_k05_whole_parts_go_in_order_holds : PySem.Challenge.rw_branchedhall_k05_whole_parts_go_in_order.Holds := by
  w_on; o_law; k_head; (case hw => w_witness2)
  k_fill
  refine Br.walk_G (l := PySem.Challenge.rw_branchedhall_k05_whole_parts_go_in_order) (n := 63) (k := 11) (x := "_law_script") (sp := fun K => Dl.spD K 1 0 K05d.F_law) rfl (by decide) rfl ⟨rfl, by decide, by decide⟩ (fun w h Y => PySem.W.kIn_of Y) ?F (fun _ _ a xs hl hS => K05d.sp_end hl hS)
  case F =>
    intro w mg fa h KX G hmg
    refine' (K05.txt_mk KX G ?a0 ?l0 ?c0 ?k0 ?a1 ?l1 ?c1 ?k1 ?a2 ?l2 ?c2 ?k2 ?a3 ?l3 ?c3 ?k3 ?a4 ?l4 ?c4 ?k4 ?a5 ?l5 ?c5 ?k5 ?a6 ?l6 ?c6 ?k6 ?a7 ?l7 ?c7 ?k7 ?a8 ?l8 ?c8 ?k8 ?a9 ?l9 ?c9 ?k9 ?a10 ?l10 ?c10 ?k10 ?a11 ?l11 ?c11 ?k11 ?a12 ?l12 ?c12 ?k12 ?a13 ?l13 ?c13 ?k13 ?a14 ?l14 ?c14 ?k14 ?a15 ?l15 ?c15 ?k15 ?a16 ?l16 ?c16 ?k16 ?a17 ?l17 ?c17 ?k17 ?a18 ?l18 ?c18 ?k18 ?a19 ?l19 ?c19 ?k19 ?a20 ?l20 ?c20 ?k20 ?a21 ?l21 ?c21 ?k21 ?a22 ?l22 ?c22 ?k22 ?a23 ?l23 ?c23 ?k23 ?a24 ?l24 ?c24 ?k24 ?a25 ?l25 ?c25 ?k25 ?a26 ?l26 ?c26 ?k26 ?a27 ?l27 ?c27 ?k27 ?a28 ?l28 ?c28 ?k28 ?a29 ?l29 ?c29 ?k29 ?a30 ?l30 ?c30 ?k30 ?a31 ?l31 ?c31 ?k31 ?a32 ?l32 ?c32 ?k32 ?a33 ?l33 ?c33 ?k33 ?a34 ?l34 ?c34 ?k34 ?a35 ?l35 ?c35 ?k35 ?a36 ?l36 ?c36 ?k36 ?g_LONGEST_WORD ?g_GREATEST_NUMBER ?g_GREATEST_RANK ?g_KIND ?g_ABOUT ?g_MOST_PEOPLE ?g_MOST_SIGNS ?g_MOST_NAMES ?z_ValueError ?z_all ?z_bool ?z_int ?z_isinstance ?z_len ?z_list ?z_max ?z_min ?z_range ?z_repr ?z_sorted ?z_str ?z_tuple ?z_zip).elim fun Z => (K05.txtx_mk KX G Z.1 ?hC ?hL ?hV ?hsa ?hex ?hty ?hkp ?hga ?hgg ?hhd ?hca ?hcn ?hct ?hcm ?hi ?hit ?hil ?hic ?hik ?hnf ?hss ?hcl ?hsv ?hvV ?h1 ?h2 ?h3 ?h4 ?s1 ?i1 ?y1 ?s2 ?i2 ?y2 ?s3 ?i3 ?y3 ?s4 ?i4 ?y4 ?gKINDS ?lKINDS ?gWORDS ?lWORDS ?gSEATS ?lSEATS ?gDOORS ?lDOORS ?gRULES ?lRULES ?gLEAST ?lLEAST ?gB ?lB ?kB ?v_begin ?w_begin ?v_seat ?w_seat ?v_ranks ?w_ranks ?v_door ?w_door ?v_say ?w_say ?v_strike ?w_strike ?v_move ?w_move).elim fun Y => (K05d.txty_mk KX G Z.1 Y ?g_KEYED ?l_KEYED ?v_KEYED ?s_KEYED).elim fun W => K05d.all_mk hmg Z.1 W (fun s v => by rw [Z.2]; exact .of_eq rfl)
    case a0 => k_is
    case l0 => k_is
    case c0 => k_is
    case k0 => k_is
    case a1 => k_is
    case l1 => k_is
    case c1 => k_is
    case k1 => k_is
    case a2 => k_is
    case l2 => k_is
    case c2 => k_is
    case k2 => k_is
    case a3 => k_is
    case l3 => k_is
    case c3 => k_is
    case k3 => k_is
    case a4 => k_is
    case l4 => k_is
    case c4 => k_is
    case k4 => k_is
    case a5 => k_is
    case l5 => k_is
    case c5 => k_is
    case k5 => k_is
    case a6 => k_is
    case l6 => k_is
    case c6 => k_is
    case k6 => k_is
    case a7 => k_is
    case l7 => k_is
    case c7 => k_is
    case k7 => k_is
    case a8 => k_is
    case l8 => k_is
    case c8 => k_is
    case k8 => k_is
    case a9 => k_is
    case l9 => k_is
    case c9 => k_is
    case k9 => k_is
    case a10 => k_is
    case l10 => k_is
    case c10 => k_is
    case k10 => k_is
    case a11 => k_is
    case l11 => k_is
    case c11 => k_is
    case k11 => k_is
    case a12 => k_is
    case l12 => k_is
    case c12 => k_is
    case k12 => k_is
    case a13 => k_is
    case l13 => k_is
    case c13 => k_is
    case k13 => k_is
    case a14 => k_is
    case l14 => k_is
    case c14 => k_is
    case k14 => k_is
    case a15 => k_is
    case l15 => k_is
    case c15 => k_is
    case k15 => k_is
    case a16 => k_is
    case l16 => k_is
    case c16 => k_is
    case k16 => k_is
    case a17 => k_is
    case l17 => k_is
    case c17 => k_is
    case k17 => k_is
    case a18 => k_is
    case l18 => k_is
    case c18 => k_is
    case k18 => k_is
    case a19 => k_is
    case l19 => k_is
    case c19 => k_is
    case k19 => k_is
    case a20 => k_is
    case l20 => k_is
    case c20 => k_is
    case k20 => k_is
    case a21 => k_is
    case l21 => k_is
    case c21 => k_is
    case k21 => k_is
    case a22 => k_is
    case l22 => k_is
    case c22 => k_is
    case k22 => k_is
    case a23 => k_is
    case l23 => k_is
    case c23 => k_is
    case k23 => k_is
    case a24 => k_is
    case l24 => k_is
    case c24 => k_is
    case k24 => k_is
    case a25 => k_is
    case l25 => k_is
    case c25 => k_is
    case k25 => k_is
    case a26 => k_is
    case l26 => k_is
    case c26 => k_is
    case k26 => k_is
    case a27 => k_is
    case l27 => k_is
    case c27 => k_is
    case k27 => k_is
    case a28 => k_is
    case l28 => k_is
    case c28 => k_is
    case k28 => k_is
    case a29 => k_is
    case l29 => k_is
    case c29 => k_is
    case k29 => k_is
    case a30 => k_is
    case l30 => k_is
    case c30 => k_is
    case k30 => k_is
    case a31 => k_is
    case l31 => k_is
    case c31 => k_is
    case k31 => k_is
    case a32 => k_is
    case l32 => k_is
    case c32 => k_is
    case k32 => k_is
    case a33 => k_is
    case l33 => k_is
    case c33 => k_is
    case k33 => k_is
    case a34 => k_is
    case l34 => k_is
    case c34 => k_is
    case k34 => k_is
    case a35 => k_is
    case l35 => k_is
    case c35 => k_is
    case k35 => k_is
    case a36 => k_is
    case l36 => k_is
    case c36 => k_is
    case k36 => k_is
    case g_LONGEST_WORD => k_is
    case g_GREATEST_NUMBER => k_is
    case g_GREATEST_RANK => k_is
    case g_KIND => k_is
    case g_ABOUT => k_is
    case g_MOST_PEOPLE => k_is
    case g_MOST_SIGNS => k_is
    case g_MOST_NAMES => k_is
    case z_ValueError => k_is
    case z_all => k_is
    case z_bool => k_is
    case z_int => k_is
    case z_isinstance => k_is
    case z_len => k_is
    case z_list => k_is
    case z_max => k_is
    case z_min => k_is
    case z_range => k_is
    case z_repr => k_is
    case z_sorted => k_is
    case z_str => k_is
    case z_tuple => k_is
    case z_zip => k_is
    case hC => k_is
    case hL => k_is
    case hV => exact rfl
    case hsa => k_is
    case hex => k_is
    case hty => k_is
    case hkp => k_is
    case hga => k_is
    case hgg => k_is
    case hhd => k_is
    case hca => k_is
    case hcn => k_is
    case hct => k_is
    case hcm => k_is
    case hi => k_is
    case hit => k_is
    case hil => k_is
    case hic => k_is
    case hik => k_is
    case hnf => k_is
    case hss => k_is
    case hcl => k_is
    case hsv => k_is
    case hvV => k_is
    case h1 => k_is
    case h2 => k_is
    case h3 => k_is
    case h4 => k_is
    case s1 => k_is
    case i1 => k_is
    case y1 => k_is
    case s2 => k_is
    case i2 => k_is
    case y2 => k_is
    case s3 => k_is
    case i3 => k_is
    case y3 => k_is
    case s4 => k_is
    case i4 => k_is
    case y4 => k_is
    case gKINDS => k_is
    case lKINDS => k_is
    case gWORDS => k_is
    case lWORDS => k_is
    case gSEATS => k_is
    case lSEATS => k_is
    case gDOORS => k_is
    case lDOORS => k_is
    case gRULES => k_is
    case lRULES => k_is
    case gLEAST => k_is
    case lLEAST => k_is
    case gB => k_is
    case lB => k_is
    case kB => k_keys
    case v_begin => k_is
    case w_begin => k_is
    case v_seat => k_is
    case w_seat => k_is
    case v_ranks => k_is
    case w_ranks => k_is
    case v_door => k_is
    case w_door => k_is
    case v_say => k_is
    case w_say => k_is
    case v_strike => k_is
    case w_strike => k_is
    case v_move => k_is
    case w_move => k_is
    case g_KEYED => k_is
    case l_KEYED => k_is
    case v_KEYED => exact (.cons ⟨_, rfl⟩ (.cons ⟨_, rfl⟩ (.cons ⟨_, rfl⟩ (.cons ⟨_, rfl⟩ (.cons ⟨_, rfl⟩ .nil)))))
    case s_KEYED => decide
